/- Parts. -/
import Derived.Test.YtpbemaaghbbocaaGreatDoorE16
import Derived.Deep.Onto
import Derived.Test.YtpbemaaghbbocaaGreatDoorE00
import Derived.Shelf.Strings.BuilderK
namespace Go.Proofs.YtpbemaaghbbocaaGreatDoor
open Go.RowKit LS
theorem Tryz.infoSample:(Tryz.prog.info? 313).map (fun i=>(i.zero,i.size,i.bytes))=some (some (.agg #[.int .i64 0,.int .i64 0]),2,16):=by kernel_rfl
theorem Zgi{last:Int}{n:Nat}{ps:List (List UInt8)}{k:Nat}(hk:k<ps.length){l:List UInt8}(hl:l=ps.getD k []){t:Nat}(hs:ZbX l=some t)(ht:¬(t:Int)≤last) :
  ZR last n (ps.drop k)=ZR t (n+1) (ps.drop (k+1)):=by
 have e:ps.getD k []=ps[k]:=by simp[hk]
 rw[List.drop_eq_getElem_cons hk,ZR,←e,←hl,hs]
 simp[ht]
theorem ZeS{last:Int}{n:Nat}{ps:List (List UInt8)}{k:Nat}(hk:k<ps.length){l:List UInt8}(hl:l=ps.getD k [])(hs:ZbX l=none∨∃t:Nat,ZbX l=some t∧(t:Int)≤last) :
  ZR last n (ps.drop k)=none:=by
 have e:ps.getD k []=ps[k]:=by simp[hk]
 rw[List.drop_eq_getElem_cons hk,ZR,←e,←hl]
 rcases hs with h|⟨t,h,h'⟩
 ·rw[h]
 ·rw[h];simp[h']
theorem Zkv{last:Int}{n:Nat}{ps:List (List UInt8)}{k:Nat}(hk:¬k<ps.length):ZR last n (ps.drop k)=some n:=by
 rw[List.drop_of_length_le (by omega)];rfl
set_option maxRecDepth 100000 in
set_option maxHeartbeats 1000000 in
theorem ZrL(s r:ByteArray)(m:Int)(w:World)(hs:s.size≤6000)(hm:w.cell? ⟨14,0,none⟩=some (.int .i64 m))(Hst:Hid (ZT 32 (bl s)=(bl r,true)))(hne:s.toList.isEmpty=false) :
  Calls Tryz.prog 140 #[.string s] w fun e w' => ∃ (sv : Value) (ok : Bool), e = .returned (.tuple #[sv, .bool ok]) ∧
    Hid ((ok=true∧∃a n cap,sv=.slice a n cap∧ZR (-1) 0 (split 32 (bl r))=some n∧w'.ownsRow w.heap.size 313 2 sv n (ZK ((split 32 (bl r)).map smV)))∨(ok=false∧ZR (-1) 0 (split 32 (bl r))=none))∧Below w.heap.size w w':=by
 have hr:r.size≤6000:=by
  have:=ZhK 32 (bl s);rw[Hst.out,Zg,Zg]at this;omega
 obtain⟨i0,hi,hz0,hz1,hz2⟩:=info_parts Tryz.infoSample
 have hgl:=World.block_lt_of_cell? _ _ hm
 go_enter Tryz.func140,Tryz.ntmps140
 go_wp2_with fail
 refine(ZfM _ Hst.out).mono ?_
 rintro e w' ⟨a,rfl,ha,rfl⟩
 obtain rfl:a=r:=Zd6 ha.out
 clear ha
 go_wp2_with fail
 refine(ZhH 32 a m _ hr hm).mono ?_
 rintro e w1 ⟨n,rfl,hn,hrow,hb1⟩
 have HP:Hid (n=(split 32 (bl a)).length):=hn
 have hn6:n≤6001:=by rw[hn];have:=Zd0 32 (bl a);rw[Zg]at this;omega
 clear hn
 have hw1:w'.heap.size+1≤w1.heap.size:=hrow.1
 go_wp2
 go_loopw [6, 7, 24] (fun v last i wr => ∃ (k : Nat) (L : Int), k ≤ n ∧ i = .int .i64 k ∧ last = .int .i64 L ∧ -1 ≤ L ∧ L ≤ 1000000 ∧ wr.ownsRow (w'.heap.size + 1) 313 2 v k (ZK (((split 32 (bl a)).map smV).take k)) ∧ Hid (ZR (-1) 0 (split 32 (bl a)) = ZR L k ((split 32 (bl a)).drop k)) ∧ Below (w'.heap.size + 1) w1 wr)
   (fun _ _ i _=>n - (intOf i).toNat)
 case atStart=>exact⟨0,-1,Nat.zero_le _,rfl,rfl,by omega,by omega,World.ownsRow_nil _ _ _ _,rfl,Below.refl _ _⟩
 case round=>
  obtain⟨k,L,hk,rfl,rfl,hL1,hL2,hown,HA,hbr⟩:=hrel
  have hwr:w'.heap.size+1≤wr.heap.size:=Nat.le_trans hw1 hbr.size
  by_cases hlt:k<n
  ·have hkl:k<(split 32 (bl a)).length:=by rw[←HP.out];exact hlt
   obtain⟨sk,hck,hsk⟩:=(hrow.below hbr (Nat.lt_succ_self _)).2 k hkl
   have hsk6:sk.size≤6000:=by rw[Z5 hsk];have:=Zei 32 (bl a) k hkl;rw[Zg]at this;omega
   have HK:Hid (bl sk=(split 32 (bl a)).getD k []):=hsk
   clear hsk
   have hmr:wr.cell? ⟨14,0,none⟩=some (.int .i64 m):=by
    rw[hbr.cell (p:=⟨_,0,none⟩) (by simpa using Nat.lt_succ_of_lt hgl),hb1.cell (p:=⟨_,0,none⟩) hgl];exact hm
   go_wp2_with fail
   refine(Zrv sk m _ hsk6 hmr).mono ?_
   rintro e w2 ⟨tm,v2,ok,rfl,hsam,hb2⟩
   have hw2:wr.heap.size≤w2.heap.size:=hb2.size
   have hbw:Below (w'.heap.size+1) w1 w2:=hbr.trans (hb2.mono hwr)
   have hown2:=Zw hown hb2
   cases ok
   ·have HF:Hid (ZR (-1) 0 (split 32 (bl a))=none):=hid (by
     rw[HA.out];refine ZeS hkl HK.out (Or.inl ?_)
     rcases hsam.out with ⟨h,_⟩|⟨_,h⟩
     ·cases h
     ·exact h)
    go_wp2
    go_ret2
    exact⟨_,false,rfl,Or.inr ⟨rfl,HF.out⟩,(hb1.trans (hbw.mono (by omega))).alloc (by omega) _⟩
   ·obtain⟨t,hst,htt,ht6,hsv⟩:∃t:Nat,ZbX (bl sk)=some t∧tm=t∧t≤1000000∧smV (bl sk)=(tm,v2):=by
     rcases hsam.out with ⟨_,h⟩|⟨h,_⟩
     ·exact h
     ·cases h
    have HT:Hid (ZbX (bl sk)=some t):=hst
    have HFP:=hid (ZfT hkl HK.out hsv)
    clear hst hsam hsv
    have ht7:tm≤1000000:=by omega
    have ht8:0≤tm:=by omega
    have HTM:Hid (tm=t):=htt
    clear htt
    by_cases hle:tm≤L
    ·have HF:Hid (ZR (-1) 0 (split 32 (bl a))=none):=hid (by
      rw[HA.out];exact ZeS hkl HK.out (Or.inr ⟨t,HT.out,by rw[←HTM.out];exact hle⟩))
     go_wp2
     go_ret2
     exact⟨_,false,rfl,Or.inr ⟨rfl,HF.out⟩,(hb1.trans (hbw.mono (by omega))).alloc (by omega) _⟩
    ·have HF:Hid (ZR (-1) 0 (split 32 (bl a))=ZR t (k+1) ((split 32 (bl a)).drop (k+1))):=hid (by
      rw[HA.out];exact Zgi hkl HK.out HT.out (by rw[←HTM.out];exact hle))
     go_wp2_with (at_builtin;refine wpList_append_own _ rfl (.tmp 41) (.tmp 43) 197 rfl (w'.heap.size+1) 313 i0 (.agg #[.int .i64 0,.int .i64 0]) 2 16 Tryz.underlying197 hi hz0 hz1 hz2 rfl (by decide) _ _ _ rfl ((hown2.alloc _).alloc _) ⟨w2.heap.size+1,0,none⟩ 1 1 [.int .i64 tm,.int .i64 v2] rfl rfl ?c1 ?c2 ?c3 ?c4 ?c5 ?_)
     case c1=>exact ZdC (by simp) (by simp)
     case c2=>intro u hu;simp at hu;rcases hu with rfl|rfl <;> rfl
     case c3=>unfold maxLen;omega
     case c4=>omega
     case c5=>simp;omega
     intro v' w3 hown3 hgrow _
     rw[←HFP.out]at hown3
     have hlt3:=hown2.lt
     have hb3:Below (w'.heap.size+1) w1 w3:=(((hbw.alloc (by omega) _).alloc (by simp;omega) _)).grown hgrow (by simp;omega) (fun j hj=>(hlt3 j hj).1)
     have hc3:w3.cell? ⟨w2.heap.size,0,none⟩=some (.int .i64 tm):=by
      refine hgrow.cell (a:=⟨w2.heap.size,0,none⟩) (by simp) ?_
      intro he;have:=(hlt3 _ he.symm).2;simp at this
     clear hown2 hown hgrow hbw
     go_wp2
     go_roundw
     case rel=>exact⟨k+1,tm,by omega,by go_num,rfl,by omega,by omega,hown3,by rw[HTM.out];exact HF,hb3⟩
     case measure=>simp[intOf];omega
  ·have HF:Hid (ZR (-1) 0 (split 32 (bl a))=some k):=hid (by
    rw[HA.out];exact Zkv (by rw[←HP.out];exact hlt))
   obtain⟨av,cp,hv⟩:=Zj hown
   rw[hv]at hown
   rw[hv]
   have HOW:Hid (wr.ownsRow w'.heap.size 313 2 (.slice av k cp) k (ZK ((split 32 (bl a)).map smV))):=hid (by
    rw[List.take_of_length_le (by rw[List.length_map];have:=HP.out;omega)]at hown
    exact hown.mono (by omega))
   clear hown
   go_wp2
   go_ret2
   exact⟨_,true,rfl,Or.inl ⟨rfl,av,k,cp,rfl,HF.out,HOW.out⟩,hb1.trans (hbr.mono (by omega))⟩
set_option maxHeartbeats 400000 in
theorem Zkr(s:ByteArray)(m:Int)(w:World)(hs:s.size≤6000)(hm:w.cell? ⟨14,0,none⟩=some (.int .i64 m)) :
  Calls Tryz.prog 140 #[.string s] w fun e w' => ∃ (sv : Value) (ok : Bool), e = .returned (.tuple #[sv, .bool ok]) ∧
    Hid ((ok=true∧∃a n cap,sv=.slice a n cap∧Zbe (bl s)=some n∧w'.ownsRow w.heap.size 313 2 sv n (ZK (ZcQ (bl s))))∨(ok=false∧Zbe (bl s)=none))∧Below w.heap.size w w':=by
 cases he:s.toList.isEmpty
 ·have hne:=Zeu he
  cases hst:ZT 32 (bl s)with
  | mk r f=>
   cases f
   ·have HF:Hid (Zbe (bl s)=none):=hid (by unfold Zbe;rw[hst];simp[hne])
    have Hst:Hid (ZT 32 (bl s)=(r,false)):=hst
    clear hst hne
    go_enter Tryz.func140,Tryz.ntmps140
    go_wp2_with fail
    refine(ZfM _ Hst.out).mono ?_
    rintro e w' ⟨a,rfl,ha,rfl⟩
    go_wp2
    go_ret2
    exact⟨_,false,rfl,Or.inr ⟨rfl,HF.out⟩,Below.refl _ _⟩
   ·have hF:Zbe (bl s)=ZR (-1) 0 (split 32 r):=by unfold Zbe;rw[hst];simp[hne]
    have hE:ZcQ (bl s)=(split 32 r).map smV:=by
     cases hl:bl s with
     | nil=>exact absurd hl hne
     | cons c t=>
      rw[hl]at hst
      by_cases hc:c=32
      ·subst hc;simp[ZT]at hst;rw[←hst];rfl
      ·simp[ZT,hc]at hst
    rw[hF,hE]
    have:=ZrL s ⟨r.toArray⟩ m w hs hm (by rw[Zc4];exact hst) he
    rwa [Zc4]at this
 ·have HF:Hid (Zbe (bl s)=some 0):=hid (by rw[ZdW he];rfl)
  go_enter Tryz.func140,Tryz.ntmps140
  go_wp2
  go_ret2
  have HE:Hid (ZcQ (bl s)=[]):=hid (by rw[ZdW he];rfl)
  exact⟨_,true,rfl,Or.inl ⟨rfl,none,0,0,rfl,HF.out,by rw[HE.out];exact World.ownsRow_nil _ _ _ _⟩,Below.refl _ _⟩
def Zbt:List (ByteArray×ByteArray)→List Value
 | []=>[]
 | p::l=>.string p.1::.string p.2::Zbt l
def blP(p:ByteArray×ByteArray):List UInt8×List UInt8:=(bl p.1,bl p.2)
theorem Zi7(l m:List (ByteArray×ByteArray)):Zbt (l++m)=Zbt l++Zbt m:=by
 induction l with
 | nil=>rfl
 | cons a l ih=>simp[Zbt,ih]
theorem ZfS(l:List (ByteArray×ByteArray)):(Zbt l).length=l.length*2:=by
 induction l with
 | nil=>rfl
 | cons a l ih=>simp[Zbt,ih];omega
theorem ZfR (l : List (ByteArray × ByteArray)) (j : Nat) : (Zbt l)[j * 2]? = l[j]?.map (fun p => .string p.1) ∧ (Zbt l)[j * 2 + 1]? = l[j]?.map (fun p => .string p.2) := by
  induction l generalizing j with
  | nil=>simp[Zbt]
  | cons r l ih=>
    cases j with
    | zero=>simp[Zbt]
    | succ j=>
      obtain⟨h1,h2⟩:=ih j
      refine⟨?_,?_⟩
      · rw[show(j+1)*2=j*2+1+1 by omega];simpa [Zbt] using h1
      · rw[show(j+1)*2+1=j*2+1+1+1 by omega];simpa [Zbt] using h2
theorem Zhv{w:World}{base:Nat}{e:TypeId}{size:Nat}{v:Value}{n:Nat}{xs:List Value}(h:w.ownsRow base e size v n xs):w.ownsRow 0 e size v n xs:=by
 refine⟨h.1,?_⟩
 rcases h.2 with h2|⟨g,cap,cur,rfl,_,r⟩
 ·exact Or.inl h2
 ·exact Or.inr ⟨g,cap,cur,rfl,Nat.zero_le _,r⟩
def ZbB(w:World)(base:Nat)(v:Value)(n:Nat)(qs:List (ByteArray×ByteArray)):Prop:=w.ownsRow base 320 2 v n (Zbt qs)∧n≤6001∧∀p∈qs,p.1.size≤6000∧p.2.size≤6000
theorem Tryz.infoLabel:(Tryz.prog.info? 320).map (fun i=>(i.zero,i.size,i.bytes))=some (some (.agg #[.string ByteArray.empty,.string ByteArray.empty]),2,32):=by kernel_rfl
theorem Zjz{last:List UInt8}{acc:List (List UInt8×List UInt8)}{ps:List (List UInt8)}{k:Nat}(hk:k<ps.length){l:List UInt8}(hl:l=ps.getD k []){p:List UInt8×List UInt8}(hs:ZcN last l=some p) :
  ZS last acc (ps.drop k)=ZS p.1 (acc++[p]) (ps.drop (k+1)):=by
 have e:ps.getD k []=ps[k]:=by simp[hk]
 rw[List.drop_eq_getElem_cons hk,ZS,←e,←hl,hs]
theorem Zf5{last:List UInt8}{acc:List (List UInt8×List UInt8)}{ps:List (List UInt8)}{k:Nat}(hk:k<ps.length){l:List UInt8}(hl:l=ps.getD k [])(hs:ZcN last l=none) :
  ZS last acc (ps.drop k)=none:=by
 have e:ps.getD k []=ps[k]:=by simp[hk]
 rw[List.drop_eq_getElem_cons hk,ZS,←e,←hl,hs]
theorem ZjA{last:List UInt8}{acc:List (List UInt8×List UInt8)}{ps:List (List UInt8)}{k:Nat}(hk:¬k<ps.length):ZS last acc (ps.drop k)=some acc:=by
 rw[List.drop_of_length_le (by omega)];rfl
theorem Zjx{last l n v:List UInt8}(h:cut 61 l=some (n,v)):ZcN last l=if Zx n && ZH v && !v.isEmpty && !leS n last then some (n,v)else none:=by
 unfold ZcN;rw[h]
theorem Zjy{last l:List UInt8}(h:cut 61 l=none):ZcN last l=none:=by unfold ZcN;rw[h]
theorem Zha(a b:ByteArray):(Op.bytesLess a.toList b.toList || a.toList == b.toList)=leS (bl a) (bl b):=by rw[ZO,ZO];rfl
theorem Zgq{s:ByteArray}{b:Bool}(w:World)(hs:s.size≤6000)(h:Zx (bl s)=b) :
  Calls Tryz.prog 62 #[.string s] w fun e w'=>e=.returned (.bool b)∧w'=w:=by
 have:=ZhN s w hs;rwa [h]at this
theorem Zk8{s:ByteArray}{b:Bool}(w:World)(hs:s.size≤6000)(h:ZH (bl s)=b) :
  Calls Tryz.prog 63 #[.string s] w fun e w'=>e=.returned (.bool b)∧w'=w:=by
 have:=ZhO s w hs;rwa [h]at this
set_option maxRecDepth 100000 in
set_option maxHeartbeats 2000000 in
theorem Zrs(s:ByteArray)(m:Int)(w:World)(hs:s.size≤6000)(hm:w.cell? ⟨14,0,none⟩=some (.int .i64 m))(hne:s.toList.isEmpty=false) :
  Calls Tryz.prog 139 #[.string s] w fun e w' => ∃ (a : Option Addr) (n cap : Nat) (ok : Bool), e = .returned (.tuple #[.slice a n cap, .bool ok]) ∧
    Hid (ok=(ZS [] [] (split 44 (bl s))).isSome∧(ok=true→∃qs,ZbB w' 0 (.slice a n cap) n qs∧ZS [] [] (split 44 (bl s))=some (qs.map blP)))∧Below w.heap.size w w':=by
 obtain⟨i0,hi,hz0,hz1,hz2⟩:=info_parts Tryz.infoLabel
 have hgl:=World.block_lt_of_cell? _ _ hm
 go_enter Tryz.func139,Tryz.ntmps139
 go_wp2_with fail
 refine(ZhH 44 s m _ hs hm).mono ?_
 rintro e w1 ⟨n,rfl,hn,hrow,hb1⟩
 have HP:Hid (n=(split 44 (bl s)).length):=hn
 have hn6:n≤6001:=by rw[hn];have:=Zd0 44 (bl s);rw[Zg]at this;omega
 clear hn
 have hw1:w.heap.size+1≤w1.heap.size:=hrow.1
 go_wp2
 go_loopw [4, 5, 16] (fun v last i wr => ∃ (k : Nat) (ls : ByteArray) (qs : List (ByteArray × ByteArray)), k ≤ n ∧ i = .int .i64 k ∧ last = .string ls ∧ wr.ownsRow (w.heap.size + 1) 320 2 v k (Zbt qs) ∧ Hid (ZS [] [] (split 44 (bl s)) = ZS (bl ls) (qs.map blP) ((split 44 (bl s)).drop k)) ∧ Below (w.heap.size + 1) w1 wr ∧ Hid (∀ p ∈ qs, p.1.size ≤ 6000 ∧ p.2.size ≤ 6000))
   (fun _ _ i _=>n - (intOf i).toNat)
 case atStart=>exact⟨0,⟨#[]⟩,[],Nat.zero_le _,rfl,rfl,World.ownsRow_nil _ _ _ _,rfl,Below.refl _ _,fun p hp=>nomatch hp⟩
 case round=>
  obtain⟨k,ls,qs,hk,rfl,rfl,hown,HA,hbr,HZ⟩:=hrel
  have hwr:w.heap.size+1≤wr.heap.size:=Nat.le_trans hw1 hbr.size
  by_cases hlt:k<n
  ·have hkl:k<(split 44 (bl s)).length:=by rw[←HP.out];exact hlt
   obtain⟨sk,hck,hsk⟩:=(hrow.below hbr (Nat.lt_succ_self _)).2 k hkl
   have hsk6:sk.size≤6000:=by rw[Z5 hsk];have:=Zei 44 (bl s) k hkl;rw[Zg]at this;omega
   have HK:Hid (bl sk=(split 44 (bl s)).getD k []):=hsk
   clear hsk
   have hmr:wr.cell? ⟨14,0,none⟩=some (.int .i64 m):=by
    rw[hbr.cell (p:=⟨_,0,none⟩) (by simpa using Nat.lt_succ_of_lt hgl),hb1.cell (p:=⟨_,0,none⟩) hgl];exact hm
   cases hc:cut 61 (bl sk)with
   | none=>
    have HF:Hid (ZS [] [] (split 44 (bl s))=none):=hid (by rw[HA.out];exact Zf5 hkl HK.out (Zjy hc))
    have HC:Hid (cut 61 (bl sk)=none):=hc
    clear hc
    go_wp2_with fail
    refine(ZeH m _ hsk6 hmr HC.out).mono ?_
    rintro e w2 ⟨a,b,rfl,hab,j,rfl⟩
    go_wp2
    go_ret2
    exact⟨none,0,0,false,rfl,⟨by rw[HF.out];rfl,fun h=>nomatch h⟩,hb1.trans (Zk (hbr.mono (by omega)) _)⟩
   | some p=>
    obtain⟨x,y⟩:=p
    have hxl:x.length≤sk.size∧y.length≤sk.size:=by rw[←Zg,(ZcI hc).1];simp;omega
    have hlab:=Zjx (last:=bl ls) hc
    have HC:Hid (cut 61 (bl sk)=some (x,y)):=hc
    clear hc
    obtain⟨b1,hb1e⟩:∃b,Zx x=b:=⟨_,rfl⟩
    obtain⟨b2,hb2e⟩:∃b,y.isEmpty=b:=⟨_,rfl⟩
    obtain⟨b3,hb3e⟩:∃b,ZH y=b:=⟨_,rfl⟩
    obtain⟨b4,hb4e⟩:∃b,leS x (bl ls)=b:=⟨_,rfl⟩
    rw[hb1e,hb2e,hb3e,hb4e]at hlab
    have HB:Hid (Zx x=b1∧y.isEmpty=b2∧ZH y=b3∧leS x (bl ls)=b4):=⟨hb1e,hb2e,hb3e,hb4e⟩
    clear hb1e hb2e hb3e hb4e
    have hcase:(b1=true∧b2=false∧b3=true∧b4=false)∨(b1=false∨(b1=true∧b2=true)∨(b1=true∧b2=false∧b3=false)∨(b1=true∧b2=false∧b3=true∧b4=true)):=by
     cases b1 <;> cases b2 <;> cases b3 <;> cases b4 <;> simp
    rcases hcase with ⟨rfl,rfl,rfl,rfl⟩|hcase
    ·have HF:Hid (ZS [] [] (split 44 (bl s))=ZS x (qs.map blP++[(x,y)]) ((split 44 (bl s)).drop (k+1))):=hid (by
      rw[HA.out];exact Zjz hkl HK.out (by simpa using hlab))
     clear hlab
     go_wp2_with fail
     refine(ZdD m _ hsk6 hmr HC.out).mono ?_
     rintro e w2 ⟨a,b,rfl,hab,j,rfl⟩
     have hsa:a.size≤6000:=by rw[Z5 hab.1];omega
     have hsb:b.size≤6000:=by rw[Z5 hab.2];omega
     have f1:Hid (Zx (bl a)=true):=by rw[hab.1];exact HB.1
     have f2:b.toList.isEmpty=false:=by rw[ZO,hab.2];exact HB.2.1
     have f3:Hid (ZH (bl b)=true):=by rw[hab.2];exact HB.2.2.1
     have f4:(Op.bytesLess a.toList ls.toList || a.toList == ls.toList)=false:=by rw[Zha,hab.1];exact HB.2.2.2
     have HF2:Hid (ZS [] [] (split 44 (bl s))=ZS (bl a) ((qs++[(a,b)]).map blP) ((split 44 (bl s)).drop (k+1))):=by rw[List.map_append,List.map_singleton,blP,hab.1,hab.2];exact HF
     have HZ2:Hid (∀p∈qs++[(a,b)],p.1.size≤6000∧p.2.size≤6000):=hid (by
      intro p hp
      rcases List.mem_append.1 hp with h|h
      ·exact HZ.out p h
      ·rw[List.mem_singleton.1 h];exact⟨hsa,hsb⟩)
     have hown2:=Zkd hown j
     go_wp2_with (first|(go_at_call 62;refine(Zgq _ hsa f1.out).mono ?_;rintro e w' ⟨rfl,rfl⟩)|(go_at_call 63;refine(Zk8 _ hsb f3.out).mono ?_;rintro e w' ⟨rfl,rfl⟩)|(at_builtin;refine wpList_append_own _ rfl (.tmp 47) (.tmp 51) 194 rfl (w.heap.size+1) 320 i0 (.agg #[.string ByteArray.empty,.string ByteArray.empty]) 2 32 Tryz.underlying194 hi hz0 hz1 hz2 rfl (by decide) _ _ _ rfl (hown2.alloc _) ⟨wr.heap.size,0,none⟩ 1 1 [.string a,.string b] rfl rfl ?c1 ?c2 ?c3 ?c4 ?c5 ?_))
     case c1=>exact ZdC ((World.cell?_alloc_at _ _ _ _ rfl).trans rfl) ((World.cell?_alloc_at _ _ _ _ rfl).trans rfl)
     case c2=>intro u hu;simp at hu;rcases hu with rfl|rfl <;> rfl
     case c3=>unfold maxLen;omega
     case c4=>omega
     case c5=>simp;omega
     intro v' w3 hown3 hgrow _
     have hb3:Below (w.heap.size+1) w1 w3:=((Zk hbr j).alloc (by simp;omega) _).grown hgrow (by simp;omega) (fun q hq=>(hown2.lt q hq).1)
     have hown4:w3.ownsRow (w.heap.size+1) 320 2 v' (k+1) (Zbt (qs++[(a,b)])):=by rw[Zi7];exact hown3
     clear hown2 hown hgrow hown3
     go_wp2
     go_roundw
     case rel=>exact⟨k+1,a,_,by omega,by go_num,rfl,hown4,HF2,hb3,HZ2⟩
     case measure=>simp[intOf];omega
    ·have HF:Hid (ZS [] [] (split 44 (bl s))=none):=hid (by
      rw[HA.out];refine Zf5 hkl HK.out ?_
      rw[hlab]
      rcases hcase with rfl|⟨rfl,rfl⟩|⟨rfl,rfl,rfl⟩|⟨rfl,rfl,rfl,rfl⟩ <;> simp)
     clear hlab
     go_wp2_with fail
     refine(ZdD m _ hsk6 hmr HC.out).mono ?_
     rintro e w2 ⟨a,b,rfl,hab,j,rfl⟩
     have hsa:a.size≤6000:=by rw[Z5 hab.1];omega
     have hsb:b.size≤6000:=by rw[Z5 hab.2];omega
     have f1:Hid (Zx (bl a)=b1):=by rw[hab.1];exact HB.1
     have f2:b.toList.isEmpty=b2:=by rw[ZO,hab.2];exact HB.2.1
     have f3:Hid (ZH (bl b)=b3):=by rw[hab.2];exact HB.2.2.1
     have f4:(Op.bytesLess a.toList ls.toList || a.toList == ls.toList)=b4:=by rw[Zha,hab.1];exact HB.2.2.2
     rcases hcase with rfl|⟨rfl,rfl⟩|⟨rfl,rfl,rfl⟩|⟨rfl,rfl,rfl,rfl⟩
     all_goals
      go_wp2_with (first|(go_at_call 62;refine(Zgq _ hsa f1.out).mono ?_;rintro e w' ⟨rfl,rfl⟩)|(go_at_call 63;refine(Zk8 _ hsb f3.out).mono ?_;rintro e w' ⟨rfl,rfl⟩))
      go_ret2
      exact⟨none,0,0,false,rfl,⟨by rw[HF.out];rfl,fun h=>nomatch h⟩,hb1.trans (Zk (hbr.mono (by omega)) _)⟩
  ·have HF:Hid (ZS [] [] (split 44 (bl s))=some (qs.map blP)):=hid (by
    rw[HA.out];exact ZjA (by rw[←HP.out];exact hlt))
   obtain⟨av,cp,hv⟩:=Zj hown
   rw[hv]
   rw[hv]at hown
   have hk6:k≤6001:=by omega
   go_wp2
   go_ret2
   exact⟨_,_,_,true,rfl,⟨by rw[HF.out];rfl,fun _=>⟨qs,⟨Zhv hown,hk6,HZ.out⟩,HF.out⟩⟩,hb1.trans (hbr.mono (by omega))⟩
theorem Zir:(Tryz.prog.info? 101).map (·.size)=some 2:=by kernel_rfl
theorem Zml:liesAt Tryz.prog Tryz.prog.depth 101 (2 / Tryz.prog.cellsOf 101) 0 101 1=true:=by kernel_rfl
theorem Zmh:(Tryz.prog.info? 5).map (fun i=>(i.zero,i.size,i.bytes))=some (some (.int .u8 0),1,1):=by kernel_rfl
set_option maxRecDepth 100000 in
set_option maxHeartbeats 1000000 in
theorem Zmk(b:Nat)(w:World)(h0:w.cell? ⟨b,0,none⟩=some (.pointer (some ⟨b,0,none⟩))) :
  Calls Tryz.prog 120 #[.pointer (some ⟨b,0,none⟩)] w fun e w'=>e=.returned (.tuple #[])∧w'=w:=by
 obtain⟨j,hj,_⟩:=Option.map_eq_some_iff.1 Zir
 go_enter Tryz.func120,Tryz.ntmps120
 go_wp2
 rw[Lib.run_neq_ptr_same w _ Tryz.underlying99 hj]
 go_wp2
 go_end0
 exact⟨rfl,rfl⟩
set_option maxRecDepth 100000 in
set_option maxHeartbeats 1000000 in
theorem Zmj(b:Nat)(w:World)(h0:w.cell? ⟨b,0,none⟩=some (.pointer none))(hsh:w.shape? b=some (101,2))(hfz:w.frozen? ⟨b,0,none⟩=false) :
  Calls Tryz.prog 120 #[.pointer (some ⟨b,0,none⟩)] w fun e w'=>e=.returned (.tuple #[])∧w'=w.setCell ⟨b,0,none⟩ (.pointer (some ⟨b,0,none⟩)):=by
 obtain⟨j,hj,hjs⟩:=Option.map_eq_some_iff.1 Zir
 go_enter Tryz.func120,Tryz.ntmps120
 go_wp2
 rw[Lib.run_to_unsafe w ⟨b,0,none⟩ Tryz.underlying99 Tryz.underlying163 hj (by rw[hjs];decide) hsh (Nat.zero_lt_succ 1)]
 simp only[Result.andThen]
 rw[Oper.upon_value]
 go_wp2
 rw[run_callFunc_extern Tryz.func160 (by kernel_rfl) (by kernel_rfl) (by kernel_rfl) (e:=Extern.AbiNoEscape.same) (by kernel_rfl)]
 rw[Lib.run_noEscape]
 simp only[Result.andThen]
 rw[Oper.upon_value]
 go_wp2
 rw[Lib.run_from_unsafe w ⟨b,0,none⟩ Tryz.underlying163 Tryz.underlying99 hj hsh Zml]
 simp only[Result.andThen]
 rw[Oper.upon_value]
 go_wp2
 go_end0
 exact⟨rfl,rfl⟩
theorem Zmi(B b:Nat)(bs:List Value)(w:World)(h:Lib.IsBuilderF 101 5 B b bs w) :
  Calls Tryz.prog 120 #[.pointer (some ⟨b,0,none⟩)] w fun e w'=>e=.returned (.tuple #[])∧(Lib.BuilderAtF 101 5 B b (.pointer (some ⟨b,0,none⟩)) bs w'∧Below B w w'∧Lib.OthersKept 5 (some b) w w'):=by
 rcases h with h|h
 ·refine(Zmj b w h.cell0 h.shape h.frozen0).mono ?_
  rintro e w' ⟨rfl,rfl⟩
  exact⟨rfl,h.used _,(Below.refl B w).setCell (p:=⟨b,0,none⟩) h.1 _,(Lib.OthersKept.refl _ _ w).setCell ⟨b,0,none⟩ rfl _⟩
 ·refine(Zmk b w h.cell0).mono ?_
  rintro e w' ⟨rfl,rfl⟩
  exact⟨rfl,h,Below.refl B _,Lib.OthersKept.refl _ _ _⟩
set_option maxRecDepth 100000 in
set_option maxHeartbeats 2000000 in
theorem ZfI(B b:Nat)(bs:List Value)(s:ByteArray)(w:World)(h:Lib.IsBuilderF 101 5 B b bs w)(hlen:bs.length+s.size≤140737488355328)(hBw:B≤w.heap.size) :
  Calls Tryz.prog 77 #[.pointer (some ⟨b,0,none⟩),.string s] w fun e w'=>e=.returned (.tuple #[.int .i64 s.size,.nilIface])∧(Lib.BuilderAtF 101 5 B b (.pointer (some ⟨b,0,none⟩)) (bs++Lib.strCells s) w'∧Below B w w'∧Lib.OthersKept 5 (some b) w w'):=by
 obtain⟨i0,hi,hz0,hz1,hz2⟩:=info_parts Zmh
 go_enter Tryz.func77,Tryz.ntmps77
 go_wp2_with fail
 refine(Zmi B b bs _ h).mono ?_
 rintro e w1 ⟨rfl,h1,hb1,hk1⟩
 obtain⟨hB,v,hbk,hown,hne⟩:=h1
 have c0:w1.cell? ⟨b,0,none⟩=some (.pointer (some ⟨b,0,none⟩)):=by rw[Lib.cell_of_heap hbk];rfl
 have c1:w1.cell? ⟨b,1,none⟩=some v:=by rw[Lib.cell_of_heap hbk];rfl
 go_wp2_with (at_builtin;refine Lib.wpList_append_own_stringF _ rfl _ _ 63 9 rfl B 5 i0 Tryz.underlying63 Tryz.underlying9 hi hz0 hz1 hz2 _ _ _ rfl hown s rfl ?c3 ?c4 ?c5 ?_)
 case c3=>unfold maxLen;omega
 case c4=>omega
 case c5=>have:=hb1.size;omega
 intro v' w2 hown' hgrow _
 have hlt:b<w1.heap.size:=by
  rcases Nat.lt_or_ge b w1.heap.size with h'|h'
  ·exact h'
  ·simp[Array.getElem?_eq_none h']at hbk
 have hb2:w2.heap[b]?=some (.cells #[.pointer (some ⟨b,0,none⟩),v] 101 (0,0)):=by
  rw[hgrow.block b hlt (fun e=>hne e.symm)]
  exact hbk
 have d0:w2.cell? ⟨b,0,none⟩=some (.pointer (some ⟨b,0,none⟩)):=by rw[Lib.cell_of_heap hb2];rfl
 have d1:w2.cell? ⟨b,1,none⟩=some v:=by rw[Lib.cell_of_heap hb2];rfl
 have f1:w2.frozen? ⟨b,1,none⟩=false:=Lib.frozen_of_heap hb2 1
 obtain⟨ao,n',cap,rfl⟩:∃ao n' cap,v'=.slice ao n' cap:=by
  rcases hown'.2 with ⟨hv,_⟩|⟨g,cap,cur,fz,hv,_⟩
  ·exact⟨_,_,_,hv⟩
  ·exact⟨_,_,_,hv⟩
 go_wp2
 go_ret2
 refine⟨rfl,?_,?_,(hk1.grown hgrow (Lib.ownsRowF_kind hown)).setCell ⟨b,1,none⟩ rfl _⟩
 ·exact Lib.BuilderAtF.put (T:=101) (e:=5) hB hb2 (bs':=bs++Lib.strCells s) (by simpa [Lib.strCells_length] using hown') (by decide)
 ·exact(hb1.grown hgrow (by have:=hb1.size;omega) (fun k hk=>(hown.lt k hk).1)).setCell (p:=⟨b,1,none⟩) hB _
def Zcb(p:ByteArray×ByteArray):List UInt8:=bl p.1++61::bl p.2
def ZQ:List (ByteArray×ByteArray)→List UInt8
 | []=>[]
 | [p]=>Zcb p
 | p::l=>Zcb p++44::ZQ l
theorem Zo8(l:List (ByteArray×ByteArray))(p:ByteArray×ByteArray):ZQ (l++[p])=(if l.isEmpty then [] else ZQ l++[44])++Zcb p:=by
 induction l with
 | nil=>rfl
 | cons a l ih=>
  cases l with
  | nil=>simp[ZQ]
  | cons c l=>
   have e:ZQ (a::c::l++[p])=Zcb a++44::ZQ (c::l++[p]):=rfl
   rw[e,ih]
   simp[ZQ]
theorem Zo7(l:List (ByteArray×ByteArray))(h:∀p∈l,p.1.size≤6000∧p.2.size≤6000):(ZQ l).length≤12002*l.length:=by
 induction l with
 | nil=>simp[ZQ]
 | cons a l ih=>
  have h1:=h a (List.mem_cons_self ..)
  have h2:=ih (fun p hp=>h p (List.mem_cons_of_mem _ hp))
  have h3:(Zcb a).length≤12001:=by unfold Zcb;rw[List.length_append,List.length_cons,Zg,Zg];omega
  cases l with
  | nil=>simp[ZQ];omega
  | cons c l=>
   have e:ZQ (a::c::l)=Zcb a++44::ZQ (c::l):=rfl
   rw[e,List.length_append,List.length_cons]
   simp at *
   omega
theorem Zn3(l:List (ByteArray×ByteArray)):∀u∈Zbt l,u.oneCell'=true:=by
 induction l with
 | nil=>intro u hu;cases hu
 | cons a l ih=>
  intro u hu
  simp[Zbt]at hu
  rcases hu with rfl|rfl|hu
  ·rfl
  ·rfl
  ·exact ih u hu
set_option maxRecDepth 100000 in
set_option maxHeartbeats 1000000 in
theorem ZmC(a:Option Addr)(n cap:Nat)(w:World)(qs:List (ByteArray×ByteArray))(h:ZbB w 0 (.slice a n cap) n qs) :
  Calls Tryz.prog 184 #[.slice a n cap] w fun e w'=>∃(a':Option Addr) (cap':Nat),e=.returned (.slice a' n cap')∧ZbB w' 0 (.slice a' n cap') n qs∧Below w.heap.size w w':=by
 obtain⟨i0,hi,hz0,hz1,hz2⟩:=info_parts Tryz.infoLabel
 obtain⟨hown,hn,hz⟩:=h
 rcases hown.2 with ⟨hv,hn0⟩|⟨g,cp,cur,hv,_⟩
 ·injection hv with h1 h2 h3
  subst h1;subst h2;subst h3
  have HZ:Hid (ZbB w 0 (.slice none 0 0) 0 qs):=⟨hown,hn,hz⟩
  have he:∀W:World,(binOp .eql 194 (.slice none 0 0) (.slice none 0 0)).run Tryz.prog W=.ok (.bool true) W:=fun _=>rfl
  clear hown hz
  go_enter Tryz.func184,Tryz.ntmps184
  go_wp2
  go_ret
  exact⟨none,0,rfl,HZ.out,Below.refl _ _⟩
 ·injection hv with h1 h2 h3
  subst h1;subst h3
  have HC:Hid (∀j u,(Zbt qs)[j]?=some u→w.cell? ((⟨g,0,none⟩:Addr).add j)=some u):=hown.cells rfl
  have hl:(Zbt qs).length=n*2:=hown.1
  have he:∀W:World,(binOp .eql 194 (.slice (some ⟨g,0,none⟩) n cap) (.slice none 0 0)).run Tryz.prog W=.ok (.bool false) W:=fun _=>rfl
  have HZ:Hid (∀p∈qs,p.1.size≤6000∧p.2.size≤6000):=hz
  clear hown hz
  go_enter Tryz.func184,Tryz.ntmps184
  go_wp2_with (at_builtin;refine wpList_append_own _ rfl (.tmp 5) (.tmp 6) 194 rfl w.heap.size 320 i0 (.agg #[.string ByteArray.empty,.string ByteArray.empty]) 2 32 Tryz.underlying194 hi hz0 hz1 hz2 rfl (by decide) _ 0 [] rfl (World.ownsRow_made w #[] 0 (Nat.le_refl _) (by unfold maxLen;omega) rfl) ⟨g,0,none⟩ n _ (Zbt qs) rfl hl ?c1 ?c2 ?c3 ?c4 ?c5 ?_)
  case c1 => intro j u hj; have := HC.out j u hj; rw [Zdy] at this; try rw [Zdy]
             rw[World.cell?_alloc_lt _ _ _ (World.block_lt_of_cell? _ _ this)];exact this
  case c2=>exact Zn3 qs
  case c3=>unfold maxLen;omega
  case c4=>omega
  intro v' w3 hown3 hgrow _
  obtain⟨av,cp3,hv3⟩:=Zj hown3
  subst hv3
  have hb3:Below w.heap.size w w3:=Zbal.grown hgrow (by simp) (fun q hq=>by simp[Value.ownBlock]at hq;omega)
  go_wp2
  go_ret
  exact⟨av,cp3,rfl,⟨Zhv hown3,hn,HZ.out⟩,hb3⟩
theorem Zms{T e:TypeId}{B b:Nat}{bs:List Value}{w w':World}(h:Lib.IsBuilderF T e B b bs w)(hb:Below w.heap.size w w'):Lib.IsBuilderF T e B b bs w':=by
 have one:∀p,Lib.BuilderAtF T e B b p bs w→Lib.BuilderAtF T e B b p bs w':=by
  intro p h1
  have hlt:=h1.lt
  obtain⟨hB,v,hbk,hown,hne⟩:=h1
  refine⟨hB,v,(hb.block b hlt).trans hbk,⟨hown.1,?_⟩,hne⟩
  rcases hown.2 with hn|⟨g,cap,cur,fz,hv,hbg,hg,rest⟩
  ·exact .inl hn
  ·exact .inr ⟨g,cap,cur,fz,hv,hbg,(hb.block g (Array.getElem?_eq_some_iff.1 hg).1).trans hg,rest⟩
 exact h.elim (fun x=>.inl (one _ x)) (fun x=>.inr (one _ x))
theorem ZbB.below{w w':World}{base:Nat}{v:Value}{n:Nat}{qs:List (ByteArray×ByteArray)}(h:ZbB w base v n qs)(hb:Below w.heap.size w w'):ZbB w' base v n qs:=⟨Zw h.1 hb,h.2⟩
theorem Zfk{w w':World}{base:Nat}{e:TypeId}{size:Nat}{v:Value}{n:Nat}{xs:List Value}(h:w.ownsRow base e size v n xs)(hb:∀k,v.ownBlock=some k→w'.heap[k]?=w.heap[k]?):w'.ownsRow base e size v n xs:=by
 refine⟨h.1,?_⟩
 rcases h.2 with h2|⟨g,cap,cur,rfl,hg,hh,r⟩
 ·exact Or.inl h2
 ·exact Or.inr ⟨g,cap,cur,rfl,hg,(hb g rfl).trans hh,r⟩
theorem Zqv{w w':World}{base:Nat}{e u:TypeId}{size:Nat}{v:Value}{n:Nat}{xs:List Value}{b:Nat}(h:w.ownsRow base e size v n xs)(hk:Lib.OthersKept u (some b) w w')(he:e≠u)(hb:v.ownBlock≠some b):w'.ownsRow base e size v n xs:=by
 refine⟨h.1,?_⟩
 rcases h.2 with h2|⟨g,cap,cur,rfl,hg,hh,r⟩
 ·exact Or.inl h2
 ·exact Or.inr ⟨g,cap,cur,rfl,hg,hk g _ hh (fun x=>hb x) (fun c fz x=>by injection x with _ x2;exact he x2),r⟩
theorem Zmt{T e t:TypeId}{B b:Nat}{bs:List Value}{w:World}(h:Lib.IsBuilderF T e B b bs w){base size n:Nat}{v:Value}{xs:List Value}(hown:w.ownsRow base t size v n xs)(ht:T≠t):v.ownBlock≠some b:=by
 rcases h with ⟨_,_,hb,_⟩|⟨_,_,hb,_⟩ <;> exact fun x=>ZE hown hb ht x.symm
theorem Zk2{w:World}{a:Nat}{x y:Value}{t:TypeId}{fr:Nat×Nat}(h:w.heap[a]?=some (.cells #[x,y] t fr)):w.cell? ⟨a,0,none⟩=some x∧w.cell? ⟨a,1,none⟩=some y:=by
 constructor <;> simp[World.cell?,h]
theorem Zd5(a b:ByteArray):bl (a++b)=bl a++bl b:=by simp[bl]
set_option maxRecDepth 100000 in
set_option maxHeartbeats 600000 in
theorem Zka(a:Option Addr)(n cap:Nat)(w:World)(qs:List (ByteArray×ByteArray))(h:ZbB w 0 (.slice a n cap) n qs) :
  Calls Tryz.prog 141 #[.slice a n cap] w fun e w'=>∃(a':Option Addr) (cap':Nat),e=.returned (.agg #[.slice a' n cap',.string ⟨(ZQ qs).toArray⟩])∧ZbB w' 0 (.slice a' n cap') n qs∧Below w.heap.size w w':=by
 have hlen:qs.length=n:=by have:=h.1.1;rw[ZfS]at this;omega
 have HR:Hid (ZbB w 0 (.slice a n cap) n qs):=h
 have hn6:n≤6001:=h.2.1
 have HLS : Hid (∀ k, (ZQ (qs.take k)).length ≤ 12002 * 6001) := hid (fun k => by
   have:=Zo7 (qs.take k) (fun p hp=>h.2.2 p (List.mem_of_mem_take hp))
   rw[List.length_take]at this
   have h2:min k qs.length≤6001:=by omega
   exact Nat.le_trans this (Nat.mul_le_mul_left _ h2))
 clear h
 go_enter Tryz.func141,Tryz.ntmps141
 go_wp2
 go_loopw [8] (fun i wr=>∃k:Nat,k≤n∧i=.int .i64 k∧Hid (Lib.IsBuilderF 101 5 (w.heap.size+1) (w.heap.size+1) (Lib.byteCells (ZQ (qs.take k))) wr)∧Hid (Below (w.heap.size+1) (w.alloc (.cells #[.slice none 0 0,.string ⟨#[]⟩] 196)) wr)) (fun i _=>n - (intOf i).toNat)
 case atStart=>
  refine⟨0,Nat.zero_le _,rfl,?_,(Below.refl _ _).alloc (by simp) _⟩
  have:=Lib.IsBuilderF.of (Lib.fresh_isBuilder 101 5 (w.alloc (.cells #[.slice none 0 0,.string ⟨#[]⟩] 196)))
  rw[Go.Deep.nblk_alloc]at this
  exact this
 case round=>
  obtain⟨k,hk,rfl,HI,HB⟩:=hrel
  have hwr:w.heap.size+1≤wr.heap.size:=by have:=HB.size;rw[Go.Deep.nblk_alloc]at this;exact this
  have HBw:Hid (Below w.heap.size w wr):=hid (((Below.refl w.heap.size w).alloc (Nat.le_refl _) _).trans (HB.mono (by omega)))
  by_cases hlt:k<n
  ·have hg:∃g,a=some ⟨g,0,none⟩:=by
    obtain⟨g,cp,hv⟩:=Zy HR.1 (by omega)
    injection hv with hv1;exact⟨g,hv1⟩
   obtain⟨g,rfl⟩:=hg
   have hkq:k<qs.length:=by omega
   obtain⟨f1,f2⟩:=ZfR qs k
   rw[List.getElem?_eq_getElem hkq]at f1 f2
   have hgl:=ZbJ HR.1
   have c1:wr.cell? ⟨g,k*2,none⟩=some (.string qs[k].1):=(HBw.cell (p:=⟨g,k*2,none⟩) hgl).trans (Zn HR.1 _ _ f1)
   have c2:wr.cell? ⟨g,k*2+1,none⟩=some (.string qs[k].2):=(HBw.cell (p:=⟨g,k*2+1,none⟩) hgl).trans (Zn HR.1 _ _ f2)
   have hz:=HR.2.2 qs[k] (List.getElem_mem hkq)
   have HT:Hid (ZQ (qs.take (k+1))=(if (qs.take k).isEmpty then [] else ZQ (qs.take k)++[44])++Zcb qs[k]):=hid (by
    rw[List.take_succ_eq_append_getElem hkq];exact Zo8 _ _)
   have hls:=HLS.out k
   generalize qs[k]=p at *
   obtain⟨x,y⟩:=p
   clear f1 f2
   have hzx:x.size≤6000:=hz.1
   have hzy:y.size≤6000:=hz.2
   clear hz
   have hnew:∀t,(wr.alloc (.cells #[.string x,.string y] t)).heap[wr.heap.size]?=some (.cells #[.string x,.string y] t (0,0)):=fun t=>Go.Deep.blk_alloc_new _ _
   have hl1:(Lib.byteCells (ZQ (qs.take k))).length+(⟨#[44]⟩:ByteArray).size≤140737488355328:=by rw[Lib.byteCells_length];show _+1≤_;omega
   have hl2:(Lib.byteCells (ZQ (qs.take k))).length+(x++⟨#[61]⟩++y).size≤140737488355328:=by
    rw[Lib.byteCells_length,ByteArray.size_append,ByteArray.size_append];show _+(_+1+_)≤_;omega
   have hl3:(Lib.byteCells (ZQ (qs.take k)++[44])).length+(x++⟨#[61]⟩++y).size≤140737488355328:=by
    rw[Lib.byteCells_length,List.length_append,ByteArray.size_append,ByteArray.size_append];show _+1+(_+1+_)≤_;omega
   have hb2:w.heap.size+1<wr.heap.size:=by
    rcases HI.out with h|h <;> exact h.lt
   have hb1:∀o,w.heap.size+1≤(wr.alloc o).heap.size:=fun o=>by rw[Go.Deep.nblk_alloc];omega
   by_cases hk0:k=0
   ·have HT2:Hid (ZQ (qs.take (k+1))=ZQ (qs.take k)++Zcb (x,y)):=hid (by rw[HT.out,hk0];rfl)
    have hdec:decide (0<(k:Int))=false:=decide_eq_false (by omega)
    clear HT
    have c1':wr.cell? ⟨g,0,none⟩=some (.string x):=by rw[hk0]at c1;simpa using c1
    have c2':wr.cell? ⟨g,1,none⟩=some (.string y):=by rw[hk0]at c2;simpa using c2
    go_wp2_with fail
    clear hdec
    refine(ZfI (w.heap.size+1) (w.heap.size+1) _ _ _ (Lib.IsBuilderF.alloc HI.out _) hl2 (hb1 _)).mono ?_
    rintro e W2 ⟨rfl,h2,b2,k2⟩
    have HI2:Hid (Lib.IsBuilderF 101 5 (w.heap.size+1) (w.heap.size+1) (Lib.byteCells (ZQ (qs.take (k+1)))) W2):=hid (by
     rw[HT2.out,Lib.byteCells_append];refine Or.inr ?_
     have e:Lib.byteCells (Zcb (x,y))=Lib.strCells (x++⟨#[61]⟩++y):=by
      rw[Lib.strCells_eq];show _=Lib.byteCells (bl _);rw[Zd5,Zd5,List.append_assoc];rfl
     rw[e];exact h2)
    have HB2:Hid (Below (w.heap.size+1) (w.alloc (.cells #[.slice none 0 0,.string ⟨#[]⟩] 196)) W2):=(HB.alloc hwr _).trans b2
    clear h2 b2 k2
    go_wp2
    go_roundw
    case rel=>exact⟨k+1,by omega,by subst hk0;rfl,HI2,HB2⟩
    case measure=>simp[intOf];omega
   ·have HT2:Hid (ZQ (qs.take (k+1))=ZQ (qs.take k)++[44]++Zcb (x,y)):=hid (by
     rw[HT.out,if_neg (by rw[List.isEmpty_iff];intro e;have:=congrArg List.length e;rw[List.length_take,List.length_nil]at this;omega)])
    have hdec:decide (0<(k:Int))=true:=decide_eq_true (by omega)
    have hk2:0<k:=by omega
    clear HT
    go_wp2_with fail
    clear hk0 hdec hk2
    refine(ZfI (w.heap.size+1) (w.heap.size+1) _ _ _ (Lib.IsBuilderF.alloc HI.out _) hl1 (hb1 _)).mono ?_
    rintro e W1 ⟨rfl,h1,b1,k1⟩
    obtain⟨o0,o1⟩:=Zk2 (k1 wr.heap.size _ (hnew _) (by simp;omega) (by intro c fz h;simp at h))
    have hW1:w.heap.size+1≤W1.heap.size:=by have:=b1.size;rw[Go.Deep.nblk_alloc]at this;omega
    have HI1:Hid (Lib.IsBuilderF 101 5 (w.heap.size+1) (w.heap.size+1) (Lib.byteCells (ZQ (qs.take k)++[44])) W1):=hid (by
     rw[Lib.byteCells_append];exact Or.inr h1)
    have HB1:Hid (Below (w.heap.size+1) (w.alloc (.cells #[.slice none 0 0,.string ⟨#[]⟩] 196)) W1):=(HB.alloc hwr _).trans b1
    clear h1 b1 k1
    go_wp2_with fail
    refine(ZfI (w.heap.size+1) (w.heap.size+1) _ _ _ HI1.out hl3 hW1).mono ?_
    rintro e W2 ⟨rfl,h2,b2,k2⟩
    have HI2:Hid (Lib.IsBuilderF 101 5 (w.heap.size+1) (w.heap.size+1) (Lib.byteCells (ZQ (qs.take (k+1)))) W2):=hid (by
     rw[HT2.out,Lib.byteCells_append];refine Or.inr ?_
     have e:Lib.byteCells (Zcb (x,y))=Lib.strCells (x++⟨#[61]⟩++y):=by
      rw[Lib.strCells_eq];show _=Lib.byteCells (bl _);rw[Zd5,Zd5,List.append_assoc];rfl
     rw[e];exact h2)
    have HB2:Hid (Below (w.heap.size+1) (w.alloc (.cells #[.slice none 0 0,.string ⟨#[]⟩] 196)) W2):=HB1.trans b2
    clear h2 b2 k2 o0 o1
    go_wp2
    go_roundw
    case rel=>exact⟨k+1,by omega,by go_num,HI2,HB2⟩
    case measure=>simp[intOf];omega
  ·obtain rfl:k=n:=by omega
   have HI2:Hid (Lib.IsBuilderF 101 5 (w.heap.size+1) (w.heap.size+1) (Lib.byteCells (ZQ qs)) wr):=hid (by
    have:=HI.out;rwa [List.take_of_length_le (by omega)]at this)
   clear HI
   go_wp2_with fail
   refine(ZmC _ _ _ wr qs (ZbB.below HR.out HBw.out)).mono ?_
   rintro e w2 ⟨a',cap',rfl,hr2,hb2⟩
   have HR2:Hid (ZbB w2 0 (.slice a' k cap') k qs):=hr2
   have HI3:Hid (Lib.IsBuilderF 101 5 (w.heap.size+1) (w.heap.size+1) (Lib.byteCells (ZQ qs)) w2):=Zms HI2.out hb2
   have HB3:Hid (Below (w.heap.size+1) (w.alloc (.cells #[.slice none 0 0,.string ⟨#[]⟩] 196)) w2):=HB.trans (hb2.mono hwr)
   have hw2:w.heap.size+1≤w2.heap.size:=Nat.le_trans hwr hb2.size
   clear hr2 hb2
   go_wp2_with fail
   refine(Tryz.Builder_String_any_k (w.heap.size+1) (w.heap.size+1) (ZQ qs) _ HI3.out hw2).mono ?_
   rintro e w3 ⟨rfl,_,b3,k3⟩
   have hbox:w3.heap[w.heap.size]?=some (.cells #[.slice none 0 0,.string ⟨#[]⟩] 196 (0,0)):=((HB3.trans b3).block _ (by omega)).trans (Go.Deep.blk_alloc_new _ _)
   obtain⟨k0,k1⟩:=Zk2 hbox
   have g0:w3.frozen? ⟨w.heap.size,0,none⟩=false:=by simp[World.frozen?,hbox]
   have g1:w3.frozen? ⟨w.heap.size,1,none⟩=false:=by simp[World.frozen?,hbox]
   have ho3:w3.ownsRow 0 320 2 (.slice a' k cap') k (Zbt qs):=Zqv HR2.1 k3 (by decide) (Zmt HI3.out HR2.1 (by decide))
   have HO3 : Hid (∀ x y, ((w3.setCell ⟨w.heap.size, 0, none⟩ x).setCell ⟨w.heap.size, 1, none⟩ y).ownsRow 0 320 2 (.slice a' k cap') k (Zbt qs)) := fun x y => Zfk ho3 (fun j hj => by
     have hne:j≠w.heap.size:=by rintro rfl;exact ZE ho3 hbox (by decide) hj.symm
     rw[Go.Deep.blk_setCell_other _ _ _ _ hne,Go.Deep.blk_setCell_other _ _ _ _ hne])
   have HBw3:Hid (Below w.heap.size w w3):=((Below.refl w.heap.size w).alloc (Nat.le_refl _) _).trans ((HB3.trans b3).mono (by omega))
   clear ho3 hbox b3 k3
   go_wp2
   exact bodyPost_ret (v:=.agg #[.slice a' k cap',.string ⟨(ZQ qs).toArray⟩]) (by simp[results,Tryz.results141,go_sem,k0,k1]) rfl ⟨a',cap',rfl,⟨HO3.out _ _,HR2.2⟩,(HBw3.setCell (p:=⟨w.heap.size,0,none⟩) (Nat.le_refl _) _).setCell (p:=⟨w.heap.size,1,none⟩) (Nat.le_refl _) _⟩
end Go.Proofs.YtpbemaaghbbocaaGreatDoor

/- Parts. -/
import Derived.Test.YtkodhpilkaihjaaGreatDoorF11
import Derived.Deep.Onto
import Derived.Test.YtkodhpilkaihjaaGreatDoorF00
import Derived.Shelf.Strings.BuilderK
set_option maxHeartbeats 2000000
set_option maxRecDepth 100000
namespace Go.Proofs.YtkodhpilkaihjaaGreatDoor
open Go.RowKit LS
theorem ZvP{d:List UInt8}(h:ZE 1000000000 (Zbk 45 d).1=none):Zcp d=false:=by unfold Zcp;rw[h]
theorem ZvQ{d:List UInt8}{v:Nat}(h:ZE 1000000000 (Zbk 45 d).1=some v):Zcp d=!((Zbk 45 d).2 && v == 0):=by unfold Zcp;rw[h]
theorem Zm9{r:List UInt8}(s:ByteArray)(most:Nat)(mi:Int)(w:World)(hmi:mi=most)(hs:s.size<=6000)(hm9:9<=most)(hm:most<=1000000000)(hr:bl s=r)(hn:ZE most r=none) :
  Calls Tryz.prog 118 #[.string s,.int .i64 mi] w fun e w'=>e=.returned (.tuple #[.int .i64 0,.bool false])/\w'=w:=by
 subst hmi;subst hr
 have:=ZhJ s most w hs hm9 hm
 rwa [ZeX hn]at this
theorem Zna{r:List UInt8}{v:Nat}(s:ByteArray)(most:Nat)(mi:Int)(w:World)(hmi:mi=most)(hs:s.size<=6000)(hm9:9<=most)(hm:most<=1000000000)(hr:bl s=r)(hn:ZE most r=some v) :
  Calls Tryz.prog 118 #[.string s,.int .i64 mi] w fun e w'=>e=.returned (.tuple #[.int .i64 v,.bool true])/\w'=w:=by
 subst hmi;subst hr
 have:=ZhJ s most w hs hm9 hm
 rwa [Zhi hn]at this
theorem ZgT{c:UInt8}{s:ByteArray}{r:List UInt8}{f:Bool}(w:World)(h:Zbk c (bl s)=(r,f)) :
  Calls Tryz.prog 207 #[.string s,.string ⟨#[c]⟩] w fun e w'=>∃a:ByteArray,e=.returned (.tuple #[.string a,.bool f])/\Hid (bl a=r)/\w'=w:=by
 have:=ZoJ c s w
 rwa [h]at this
theorem ZvJ{d d':List UInt8}{less:Bool}{v:Int}(hst:Zbk 45 d=(d',less))(hv:numI 1000000000 d'=v):valI d=if less then -v else v:=by
 unfold valI;rw[hst];simp only[hv]
theorem ZtU(s:ByteArray)(w:World)(hs:s.size<=6000) :
  Calls Tryz.prog 249 #[.string s] w fun e w'=>∃v:Int,e=.returned (.tuple #[.int .i64 v,.bool (Zcp (bl s))])/\w'=w/\Hid (Zcp (bl s)=true->v=valI (bl s)):=by
 have hl:(Zbk 45 (bl s)).1.length<=s.size:=by rw[<-Ze];exact Zjm 45 (bl s)
 have hVn:=@ZvP (bl s)
 have hVs:=@ZvQ (bl s)
 generalize hst:Zbk 45 (bl s)=st at *
 obtain⟨r,f⟩:=st
 have Hst:Hid (Zbk 45 (bl s)=(r,f)):=hst
 clear hst
 simp only at hl hVn hVs
 cases hn:ZE 1000000000 r with
 | none=>
  have HV:Hid (Zcp (bl s)=false):=hVn hn
  have HN:Hid (ZE 1000000000 r=none):=hn
  clear hn hVn hVs
  cases f <;>
  ·go_enter Tryz.func249,Tryz.ntmps249
   go_wp2_with fail
   refine(ZgT _ Hst.out).mono ?_
   rintro e w' ⟨a,rfl,ha,rfl⟩
   have hsa:a.size<=6000:=by rw[ZO ha.out];omega
   go_wp2_with fail
   refine(Zm9 a 1000000000 _ _ rfl hsa (by omega) (by omega) ha.out HN.out).mono ?_
   rintro e w' ⟨rfl,rfl⟩
   go_wp2
   go_ret2
   exact⟨_,by rw[HV.out];rfl,rfl,hid (fun h=>by rw[HV.out]at h;cases h)⟩
 | some v=>
  have hv:=Zft hn
  have HN:Hid (ZE 1000000000 r=some v):=hn
  have hV:=hVs hn
  clear hn hVn hVs
  have hcase:(f=false/\Zcp (bl s)=true)∨(f=true/\((v:Int) != 0)=true/\Zcp (bl s)=true)∨(f=true/\((v:Int) != 0)=false/\Zcp (bl s)=false):=by
   cases f
   ·exact Or.inl ⟨rfl,by simpa using hV⟩
   ·by_cases hz:v=0
    ·subst hz;exact Or.inr (Or.inr ⟨rfl,rfl,by simpa using hV⟩)
    ·exact Or.inr (Or.inl ⟨rfl,by simp;omega,by rw[hV];simp[hz]⟩)
  clear hV
  rcases hcase with ⟨rfl,hV⟩|⟨rfl,hb,hV⟩|⟨rfl,hb,hV⟩
  all_goals
   have HV:Hid (Zcp (bl s)=_):=hV
   have HVI:=hid (ZvJ Hst.out (Zfs HN.out)).symm
   clear hV
   go_enter Tryz.func249,Tryz.ntmps249
   go_wp2_with fail
   refine(ZgT _ Hst.out).mono ?_
   rintro e w' ⟨a,rfl,ha,rfl⟩
   have hsa:a.size<=6000:=by rw[ZO ha.out];omega
   go_wp2_with fail
   refine(Zna a 1000000000 _ _ rfl hsa (by omega) (by omega) ha.out HN.out).mono ?_
   rintro e w' ⟨rfl,rfl⟩
   go_wp2
   go_ret2
   exact⟨_,by rw[HV.out];rfl,rfl,hid (fun h=>by first|(rw[HV.out]at h;cases h;done)|exact HVI.out)⟩
def Zgs(l:List UInt8)(tm v:Int)(ok:Bool):Prop:=(ok=true/\∃t:Nat,ZcT l=some t/\tm=t/\t<=1000000/\smV l=(tm,v))∨(ok=false/\ZcT l=none)
theorem ZtQ(s:ByteArray)(m:Int)(w:World)(hs:s.size<=6000)(hm:w.cell? ⟨14,0,none⟩=some (.int .i64 m)) :
  Calls Tryz.prog 208 #[.string s] w fun e w'=>∃(tm v:Int) (ok:Bool),e=.returned (.tuple #[.agg #[.int .i64 tm,.int .i64 v],.bool ok])/\Hid (Zgs (bl s) tm v ok)/\Below w.heap.size w w':=by
 have hm1 : ∀ o, (w.alloc o).cell? ⟨14, 0, none⟩ = some (.int .i64 m) := fun o => by
   rw[World.cell?_alloc_lt _ _ _ (World.block_lt_of_cell? _ _ hm)];exact hm
 cases hc:cut 58 (bl s)with
 | none=>
  have HS:Hid (Zgs (bl s) 0 0 false):=Or.inr ⟨rfl,by unfold ZcT;rw[hc]⟩
  have HC:Hid (cut 58 (bl s)=none):=hc
  clear hc
  go_enter Tryz.func208,Tryz.ntmps208
  go_wp2_with fail
  refine(Zfi m _ hs (hm1 _) HC.out).mono ?_
  rintro e w' ⟨a,b,rfl,hab,n,rfl⟩
  go_wp2
  exact bodyPost_ret (v:=.tuple #[.agg #[.int .i64 0,.int .i64 0],.bool false]) (by simp[results,Tryz.results208,go_sem]) rfl ⟨0,0,false,rfl,HS,(by repeat first|exact Below.refl _ _|assumption|refine Below.alloc ?_ ?_ _|refine Below.setCell ?_ ?_ _|refine Zg ?_ _|refine Below.drew ?_|omega|(simp;omega)|simp)⟩
 | some xy=>
  obtain⟨x,y⟩:=xy
  have hxl:x.length<=s.size/\y.length<=s.size:=by
   rw[<-Ze,(Zdb hc).1];simp;omega
  have HC:Hid (cut 58 (bl s)=some (x,y)):=hc
  cases hn:ZE 1000000 x with
  | none=>
   have HS:Hid (Zgs (bl s) 0 0 false):=Or.inr ⟨rfl,by unfold ZcT;rw[hc];simp only[hn]⟩
   have HN:Hid (ZE 1000000 x=none):=hn
   clear hc hn
   go_enter Tryz.func208,Tryz.ntmps208
   go_wp2_with fail
   refine(ZdY m _ hs (hm1 _) HC.out).mono ?_
   rintro e w' ⟨a,b,rfl,hab,n,rfl⟩
   have hsa:a.size<=6000:=by rw[ZO hab.1];omega
   go_wp2_with fail
   refine(Zm9 a 1000000 _ _ rfl hsa (by omega) (by omega) hab.1 HN.out).mono ?_
   rintro e w' ⟨rfl,rfl⟩
   go_wp2
   exact bodyPost_ret (v:=.tuple #[.agg #[.int .i64 0,.int .i64 0],.bool false]) (by simp[results,Tryz.results208,go_sem]) rfl ⟨0,0,false,rfl,HS,(by repeat first|exact Below.refl _ _|assumption|refine Below.alloc ?_ ?_ _|refine Below.setCell ?_ ?_ _|refine Zg ?_ _|refine Below.drew ?_|omega|(simp;omega)|simp)⟩
  | some t=>
   have ht:=Zft hn
   have HS:Hid (∀v:Int,(Zcp y=true->v=valI y)->Zgs (bl s) t v (Zcp y)):=hid (by
    intro v hvv
    cases hv:Zcp y
    ·exact Or.inr ⟨rfl,by unfold ZcT;rw[hc];simp[hn,hv]⟩
    ·exact Or.inl ⟨rfl,t,by unfold ZcT;rw[hc];simp[hn,hv],rfl,ht,by unfold smV;rw[hc];simp only[Zfs hn,hvv hv]⟩)
   have HN:Hid (ZE 1000000 x=some t):=hn
   clear hc hn
   go_enter Tryz.func208,Tryz.ntmps208
   go_wp2_with fail
   refine(ZdY m _ hs (hm1 _) HC.out).mono ?_
   rintro e w' ⟨a,b,rfl,hab,n,rfl⟩
   have hsa:a.size<=6000:=by rw[ZO hab.1];omega
   have hsb:b.size<=6000:=by rw[ZO hab.2];omega
   go_wp2_with fail
   refine(Zna a 1000000 _ _ rfl hsa (by omega) (by omega) hab.1 HN.out).mono ?_
   rintro e w' ⟨rfl,rfl⟩
   go_wp2_with fail
   refine(ZtU b _ hsb).mono ?_
   rintro e w' ⟨v,rfl,rfl,HVV⟩
   rw[hab.2]
   rw[hab.2]at HVV
   go_wp2
   exact bodyPost_ret (v:=.tuple #[.agg #[.int .i64 t,.int .i64 v],.bool (Zcp y)]) (by simp[results,Tryz.results208,go_sem]) rfl ⟨t,v,Zcp y,rfl,hid (HS.out v HVV.out),(by repeat first|exact Below.refl _ _|assumption|refine Below.alloc ?_ ?_ _|refine Below.setCell ?_ ?_ _|refine Zg ?_ _|refine Below.drew ?_|omega|(simp;omega)|simp)⟩
theorem Tryz.infoSample:(Tryz.prog.info? 398).map (fun i=>(i.zero,i.size,i.bytes))=some (some (.agg #[.int .i64 0,.int .i64 0]),2,16):=by kernel_rfl
theorem Zua{last:Int}{n:Nat}{ps:List (List UInt8)}{k:Nat}(hk:k<ps.length){l:List UInt8}(hl:l=ps.getD k []){t:Nat}(hs:ZcT l=some t)(ht:¬(t:Int)<=last) :
  ZbM last n (ps.drop k)=ZbM t (n+1) (ps.drop (k+1)):=by
 have e:ps.getD k []=ps[k]:=by simp[hk]
 rw[List.drop_eq_getElem_cons hk,ZbM,<-e,<-hl,hs]
 simp[ht]
theorem Zmq{last:Int}{n:Nat}{ps:List (List UInt8)}{k:Nat}(hk:k<ps.length){l:List UInt8}(hl:l=ps.getD k [])(hs:ZcT l=none∨∃t:Nat,ZcT l=some t/\(t:Int)<=last) :
  ZbM last n (ps.drop k)=none:=by
 have e:ps.getD k []=ps[k]:=by simp[hk]
 rw[List.drop_eq_getElem_cons hk,ZbM,<-e,<-hl]
 rcases hs with h|⟨t,h,h'⟩
 ·rw[h]
 ·rw[h];simp[h']
theorem Zub{last:Int}{n:Nat}{ps:List (List UInt8)}{k:Nat}(hk:¬k<ps.length):ZbM last n (ps.drop k)=some n:=by
 rw[List.drop_of_length_le (by omega)];rfl
theorem Zud(s r:ByteArray)(m:Int)(w:World)(hs:s.size<=6000)(hm:w.cell? ⟨14,0,none⟩=some (.int .i64 m))(Hst:Hid (Zbk 32 (bl s)=(bl r,true)))(hne:s.toList.isEmpty=false) :
  Calls Tryz.prog 156 #[.string s] w fun e w' => ∃ (sv : Value) (ok : Bool), e = .returned (.tuple #[sv, .bool ok]) /\
    Hid ((ok=true/\∃a n cap,sv=.slice a n cap/\ZbM (-1) 0 (split 32 (bl r))=some n/\w'.ownsRow w.heap.size 398 2 sv n (Zb2 ((split 32 (bl r)).map smV)))∨(ok=false/\ZbM (-1) 0 (split 32 (bl r))=none))/\Below w.heap.size w w':=by
 have hr:r.size<=6000:=by
  have:=Zjm 32 (bl s);rw[Hst.out,Ze,Ze]at this;omega
 obtain⟨i0,hi,hz0,hz1,hz2⟩:=info_parts Tryz.infoSample
 have hgl:=World.block_lt_of_cell? _ _ hm
 go_enter Tryz.func156,Tryz.ntmps156
 go_wp2_with fail
 refine(ZgT _ Hst.out).mono ?_
 rintro e w' ⟨a,rfl,ha,rfl⟩
 obtain rfl:a=r:=Zc9 ha.out
 clear ha
 go_wp2_with fail
 refine(Zjd 32 a m _ hr hm).mono ?_
 rintro e w1 ⟨n,rfl,hn,hrow,hb1⟩
 have HP:Hid (n=(split 32 (bl a)).length):=hn
 have hn6:n<=6001:=by rw[hn];have:=ZfA 32 (bl a);rw[Ze]at this;omega
 clear hn
 have hw1:w'.heap.size+1<=w1.heap.size:=hrow.1
 go_wp2
 go_loopw [6, 7, 24] (fun v last i wr => ∃ (k : Nat) (L : Int), k <= n /\ i = .int .i64 k /\ last = .int .i64 L /\ -1 <= L /\ L <= 1000000 /\ wr.ownsRow (w'.heap.size + 1) 398 2 v k (Zb2 (((split 32 (bl a)).map smV).take k)) /\ Hid (ZbM (-1) 0 (split 32 (bl a)) = ZbM L k ((split 32 (bl a)).drop k)) /\ Below (w'.heap.size + 1) w1 wr)
   (fun _ _ i _=>n - (intOf i).toNat)
 case atStart=>exact⟨0,-1,Nat.zero_le _,rfl,rfl,by omega,by omega,World.ownsRow_nil _ _ _ _,rfl,Below.refl _ _⟩
 case round=>
  obtain⟨k,L,hk,rfl,rfl,hL1,hL2,hown,HA,hbr⟩:=hrel
  have hwr:w'.heap.size+1<=wr.heap.size:=Nat.le_trans hw1 hbr.size
  by_cases hlt:k<n
  ·have hkl:k<(split 32 (bl a)).length:=by rw[<-HP.out];exact hlt
   obtain⟨sk,hck,hsk⟩:=(hrow.below hbr (Nat.lt_succ_self _)).2 k hkl
   have hsk6:sk.size<=6000:=by rw[ZO hsk];have:=Zhu 32 (bl a) k hkl;rw[Ze]at this;omega
   have HK:Hid (bl sk=(split 32 (bl a)).getD k []):=hsk
   clear hsk
   have hmr:wr.cell? ⟨14,0,none⟩=some (.int .i64 m):=by
    rw[hbr.cell (p:=⟨_,0,none⟩) (by simpa using Nat.lt_succ_of_lt hgl),hb1.cell (p:=⟨_,0,none⟩) hgl];exact hm
   go_wp2_with fail
   refine(ZtQ sk m _ hsk6 hmr).mono ?_
   rintro e w2 ⟨tm,v2,ok,rfl,hsam,hb2⟩
   have hw2:wr.heap.size<=w2.heap.size:=hb2.size
   have hbw:Below (w'.heap.size+1) w1 w2:=hbr.trans (hb2.mono hwr)
   have hown2:=Zm hown hb2
   cases ok
   ·have HF:Hid (ZbM (-1) 0 (split 32 (bl a))=none):=hid (by
     rw[HA.out];refine Zmq hkl HK.out (Or.inl ?_)
     rcases hsam.out with ⟨h,_⟩|⟨_,h⟩
     ·cases h
     ·exact h)
    go_wp2
    go_ret2
    exact⟨_,false,rfl,Or.inr ⟨rfl,HF.out⟩,(hb1.trans (hbw.mono (by omega))).alloc (by omega) _⟩
   ·obtain⟨t,hst,htt,ht6,hsv⟩:∃t:Nat,ZcT (bl sk)=some t/\tm=t/\t<=1000000/\smV (bl sk)=(tm,v2):=by
     rcases hsam.out with ⟨_,h⟩|⟨h,_⟩
     ·exact h
     ·cases h
    have HT:Hid (ZcT (bl sk)=some t):=hst
    have HFP:=hid (Zpr hkl HK.out hsv)
    clear hst hsam hsv
    have ht7:tm<=1000000:=by omega
    have ht8:0<=tm:=by omega
    have HTM:Hid (tm=t):=htt
    clear htt
    by_cases hle:tm<=L
    ·have HF:Hid (ZbM (-1) 0 (split 32 (bl a))=none):=hid (by
      rw[HA.out];exact Zmq hkl HK.out (Or.inr ⟨t,HT.out,by rw[<-HTM.out];exact hle⟩))
     go_wp2
     go_ret2
     exact⟨_,false,rfl,Or.inr ⟨rfl,HF.out⟩,(hb1.trans (hbw.mono (by omega))).alloc (by omega) _⟩
    ·have HF:Hid (ZbM (-1) 0 (split 32 (bl a))=ZbM t (k+1) ((split 32 (bl a)).drop (k+1))):=hid (by
      rw[HA.out];exact Zua hkl HK.out HT.out (by rw[<-HTM.out];exact hle))
     go_wp2_with (at_builtin;refine wpList_append_own _ rfl (.tmp 41) (.tmp 43) 207 rfl (w'.heap.size+1) 398 i0 (.agg #[.int .i64 0,.int .i64 0]) 2 16 Tryz.underlying207 hi hz0 hz1 hz2 rfl (by decide) _ _ _ rfl ((hown2.alloc _).alloc _) ⟨w2.heap.size+1,0,none⟩ 1 1 [.int .i64 tm,.int .i64 v2] rfl rfl ?c1 ?c2 ?c3 ?c4 ?c5 ?_)
     case c1=>exact ZjV (by simp) (by simp)
     case c2=>intro u hu;simp at hu;rcases hu with rfl|rfl <;> rfl
     case c3=>unfold maxLen;omega
     case c4=>omega
     case c5=>simp;omega
     intro v' w3 hown3 hgrow _
     rw[<-HFP.out]at hown3
     have hlt3:=hown2.lt
     have hb3:Below (w'.heap.size+1) w1 w3:=(((hbw.alloc (by omega) _).alloc (by simp;omega) _)).grown hgrow (by simp;omega) (fun j hj=>(hlt3 j hj).1)
     have hc3:w3.cell? ⟨w2.heap.size,0,none⟩=some (.int .i64 tm):=by
      refine hgrow.cell (a:=⟨w2.heap.size,0,none⟩) (by simp) ?_
      intro he;have:=(hlt3 _ he.symm).2;simp at this
     clear hown2 hown hgrow hbw
     go_wp2
     go_roundw
     case rel=>exact⟨k+1,tm,by omega,by go_num,rfl,by omega,by omega,hown3,by rw[HTM.out];exact HF,hb3⟩
     case measure=>simp[intOf];omega
  ·have HF:Hid (ZbM (-1) 0 (split 32 (bl a))=some k):=hid (by
    rw[HA.out];exact Zub (by rw[<-HP.out];exact hlt))
   obtain⟨av,cp,hv⟩:=Zr hown
   rw[hv]at hown
   rw[hv]
   have HOW:Hid (wr.ownsRow w'.heap.size 398 2 (.slice av k cp) k (Zb2 ((split 32 (bl a)).map smV))):=hid (by
    rw[List.take_of_length_le (by rw[List.length_map];have:=HP.out;omega)]at hown
    exact hown.mono (by omega))
   clear hown
   go_wp2
   go_ret2
   exact⟨_,true,rfl,Or.inl ⟨rfl,av,k,cp,rfl,HF.out,HOW.out⟩,hb1.trans (hbr.mono (by omega))⟩
theorem Zmd(s:ByteArray)(m:Int)(w:World)(hs:s.size<=6000)(hm:w.cell? ⟨14,0,none⟩=some (.int .i64 m)) :
  Calls Tryz.prog 156 #[.string s] w fun e w' => ∃ (sv : Value) (ok : Bool), e = .returned (.tuple #[sv, .bool ok]) /\
    Hid ((ok=true/\∃a n cap,sv=.slice a n cap/\Zb4 (bl s)=some n/\w'.ownsRow w.heap.size 398 2 sv n (Zb2 (ZdJ (bl s))))∨(ok=false/\Zb4 (bl s)=none))/\Below w.heap.size w w':=by
 cases he:s.toList.isEmpty
 ·have hne:=Zf4 he
  cases hst:Zbk 32 (bl s)with
  | mk r f=>
   cases f
   ·have HF:Hid (Zb4 (bl s)=none):=hid (by unfold Zb4;rw[hst];simp[hne])
    have Hst:Hid (Zbk 32 (bl s)=(r,false)):=hst
    clear hst hne
    go_enter Tryz.func156,Tryz.ntmps156
    go_wp2_with fail
    refine(ZgT _ Hst.out).mono ?_
    rintro e w' ⟨a,rfl,ha,rfl⟩
    go_wp2
    go_ret2
    exact⟨_,false,rfl,Or.inr ⟨rfl,HF.out⟩,Below.refl _ _⟩
   ·have hF:Zb4 (bl s)=ZbM (-1) 0 (split 32 r):=by unfold Zb4;rw[hst];simp[hne]
    have hE:ZdJ (bl s)=(split 32 r).map smV:=by
     cases hl:bl s with
     | nil=>exact absurd hl hne
     | cons c t=>
      rw[hl]at hst
      by_cases hc:c=32
      ·subst hc;simp[Zbk]at hst;rw[<-hst];rfl
      ·simp[Zbk,hc]at hst
    rw[hF,hE]
    have:=Zud s ⟨r.toArray⟩ m w hs hm (by rw[Zbu];exact hst) he
    rwa [Zbu]at this
 ·have HF:Hid (Zb4 (bl s)=some 0):=hid (by rw[Zfq he];rfl)
  go_enter Tryz.func156,Tryz.ntmps156
  go_wp2
  go_ret2
  have HE:Hid (ZdJ (bl s)=[]):=hid (by rw[Zfq he];rfl)
  exact⟨_,true,rfl,Or.inl ⟨rfl,none,0,0,rfl,HF.out,by rw[HE.out];exact World.ownsRow_nil _ _ _ _⟩,Below.refl _ _⟩
def ZbD:List (ByteArray×ByteArray)->List Value
 | []=>[]
 | p::l=>.string p.1::.string p.2::ZbD l
def blP(p:ByteArray×ByteArray):List UInt8×List UInt8:=(bl p.1,bl p.2)
theorem ZkI(l m:List (ByteArray×ByteArray)):ZbD (l++m)=ZbD l++ZbD m:=by
 induction l with
 | nil=>rfl
 | cons a l ih=>simp[ZbD,ih]
theorem ZgW(l:List (ByteArray×ByteArray)):(ZbD l).length=l.length*2:=by
 induction l with
 | nil=>rfl
 | cons a l ih=>simp[ZbD,ih];omega
theorem ZgV (l : List (ByteArray × ByteArray)) (j : Nat) : (ZbD l)[j * 2]? = l[j]?.map (fun p => .string p.1) /\ (ZbD l)[j * 2 + 1]? = l[j]?.map (fun p => .string p.2) := by
  induction l generalizing j with
  | nil=>simp[ZbD]
  | cons r l ih=>
    cases j with
    | zero=>simp[ZbD]
    | succ j=>
      obtain⟨h1,h2⟩:=ih j
      refine⟨?_,?_⟩
      · rw[show(j+1)*2=j*2+1+1 by omega];simpa [ZbD] using h1
      · rw[show(j+1)*2+1=j*2+1+1+1 by omega];simpa [ZbD] using h2
theorem ZiT{w:World}{base:Nat}{e:TypeId}{size:Nat}{v:Value}{n:Nat}{xs:List Value}(h:w.ownsRow base e size v n xs):w.ownsRow 0 e size v n xs:=by
 refine⟨h.1,?_⟩
 rcases h.2 with h2|⟨g,cap,cur,rfl,_,r⟩
 ·exact Or.inl h2
 ·exact Or.inr ⟨g,cap,cur,rfl,Nat.zero_le _,r⟩
def ZbO(w:World)(base:Nat)(v:Value)(n:Nat)(qs:List (ByteArray×ByteArray)):Prop:=w.ownsRow base 394 2 v n (ZbD qs)/\n<=6001/\∀p∈qs,p.1.size<=6000/\p.2.size<=6000
theorem Tryz.infoLabel:(Tryz.prog.info? 394).map (fun i=>(i.zero,i.size,i.bytes))=some (some (.agg #[.string ByteArray.empty,.string ByteArray.empty]),2,32):=by kernel_rfl
theorem Zq5{last:List UInt8}{acc:List (List UInt8×List UInt8)}{ps:List (List UInt8)}{k:Nat}(hk:k<ps.length){l:List UInt8}(hl:l=ps.getD k []){p:List UInt8×List UInt8}(hs:ZdF last l=some p) :
  Zby last acc (ps.drop k)=Zby p.1 (acc++[p]) (ps.drop (k+1)):=by
 have e:ps.getD k []=ps[k]:=by simp[hk]
 rw[List.drop_eq_getElem_cons hk,Zby,<-e,<-hl,hs]
theorem Zld{last:List UInt8}{acc:List (List UInt8×List UInt8)}{ps:List (List UInt8)}{k:Nat}(hk:k<ps.length){l:List UInt8}(hl:l=ps.getD k [])(hs:ZdF last l=none) :
  Zby last acc (ps.drop k)=none:=by
 have e:ps.getD k []=ps[k]:=by simp[hk]
 rw[List.drop_eq_getElem_cons hk,Zby,<-e,<-hl,hs]
theorem Zq6{last:List UInt8}{acc:List (List UInt8×List UInt8)}{ps:List (List UInt8)}{k:Nat}(hk:¬k<ps.length):Zby last acc (ps.drop k)=some acc:=by
 rw[List.drop_of_length_le (by omega)];rfl
theorem Zq2{last l n v:List UInt8}(h:cut 61 l=some (n,v)):ZdF last l=if ZC n && Z7 v && !v.isEmpty && !leS n last then some (n,v)else none:=by
 unfold ZdF;rw[h]
theorem Zq3{last l:List UInt8}(h:cut 61 l=none):ZdF last l=none:=by unfold ZdF;rw[h]
theorem Zlf(a b:ByteArray):(Op.bytesLess a.toList b.toList || a.toList == b.toList)=leS (bl a) (bl b):=by rw[Zba,Zba];rfl
theorem ZhI{s:ByteArray}{b:Bool}(w:World)(hs:s.size<=6000)(h:ZC (bl s)=b) :
  Calls Tryz.prog 120 #[.string s] w fun e w'=>e=.returned (.bool b)/\w'=w:=by
 have:=Zjr s w hs;rwa [h]at this
theorem Zm7{s:ByteArray}{b:Bool}(w:World)(hs:s.size<=6000)(h:Z7 (bl s)=b) :
  Calls Tryz.prog 121 #[.string s] w fun e w'=>e=.returned (.bool b)/\w'=w:=by
 have:=Zjs s w hs;rwa [h]at this
theorem ZtM(s:ByteArray)(m:Int)(w:World)(hs:s.size<=6000)(hm:w.cell? ⟨14,0,none⟩=some (.int .i64 m))(hne:s.toList.isEmpty=false) :
  Calls Tryz.prog 155 #[.string s] w fun e w' => ∃ (a : Option Addr) (n cap : Nat) (ok : Bool), e = .returned (.tuple #[.slice a n cap, .bool ok]) /\
    Hid (ok=(Zby [] [] (split 44 (bl s))).isSome/\(ok=true->∃qs,ZbO w' 0 (.slice a n cap) n qs/\Zby [] [] (split 44 (bl s))=some (qs.map blP)))/\Below w.heap.size w w':=by
 obtain⟨i0,hi,hz0,hz1,hz2⟩:=info_parts Tryz.infoLabel
 have hgl:=World.block_lt_of_cell? _ _ hm
 go_enter Tryz.func155,Tryz.ntmps155
 go_wp2_with fail
 refine(Zjd 44 s m _ hs hm).mono ?_
 rintro e w1 ⟨n,rfl,hn,hrow,hb1⟩
 have HP:Hid (n=(split 44 (bl s)).length):=hn
 have hn6:n<=6001:=by rw[hn];have:=ZfA 44 (bl s);rw[Ze]at this;omega
 clear hn
 have hw1:w.heap.size+1<=w1.heap.size:=hrow.1
 go_wp2
 go_loopw [4, 5, 16] (fun v last i wr => ∃ (k : Nat) (ls : ByteArray) (qs : List (ByteArray × ByteArray)), k <= n /\ i = .int .i64 k /\ last = .string ls /\ wr.ownsRow (w.heap.size + 1) 394 2 v k (ZbD qs) /\ Hid (Zby [] [] (split 44 (bl s)) = Zby (bl ls) (qs.map blP) ((split 44 (bl s)).drop k)) /\ Below (w.heap.size + 1) w1 wr /\ Hid (∀ p ∈ qs, p.1.size <= 6000 /\ p.2.size <= 6000))
   (fun _ _ i _=>n - (intOf i).toNat)
 case atStart=>exact⟨0,⟨#[]⟩,[],Nat.zero_le _,rfl,rfl,World.ownsRow_nil _ _ _ _,rfl,Below.refl _ _,fun p hp=>nomatch hp⟩
 case round=>
  obtain⟨k,ls,qs,hk,rfl,rfl,hown,HA,hbr,HZ⟩:=hrel
  have hwr:w.heap.size+1<=wr.heap.size:=Nat.le_trans hw1 hbr.size
  by_cases hlt:k<n
  ·have hkl:k<(split 44 (bl s)).length:=by rw[<-HP.out];exact hlt
   obtain⟨sk,hck,hsk⟩:=(hrow.below hbr (Nat.lt_succ_self _)).2 k hkl
   have hsk6:sk.size<=6000:=by rw[ZO hsk];have:=Zhu 44 (bl s) k hkl;rw[Ze]at this;omega
   have HK:Hid (bl sk=(split 44 (bl s)).getD k []):=hsk
   clear hsk
   have hmr:wr.cell? ⟨14,0,none⟩=some (.int .i64 m):=by
    rw[hbr.cell (p:=⟨_,0,none⟩) (by simpa using Nat.lt_succ_of_lt hgl),hb1.cell (p:=⟨_,0,none⟩) hgl];exact hm
   cases hc:cut 61 (bl sk)with
   | none=>
    have HF:Hid (Zby [] [] (split 44 (bl s))=none):=hid (by rw[HA.out];exact Zld hkl HK.out (Zq3 hc))
    have HC:Hid (cut 61 (bl sk)=none):=hc
    clear hc
    go_wp2_with fail
    refine(Zfi m _ hsk6 hmr HC.out).mono ?_
    rintro e w2 ⟨a,b,rfl,hab,j,rfl⟩
    go_wp2
    go_ret2
    exact⟨none,0,0,false,rfl,⟨by rw[HF.out];rfl,fun h=>nomatch h⟩,hb1.trans (Zg (hbr.mono (by omega)) _)⟩
   | some p=>
    obtain⟨x,y⟩:=p
    have hxl:x.length<=sk.size/\y.length<=sk.size:=by rw[<-Ze,(Zdb hc).1];simp;omega
    have hlab:=Zq2 (last:=bl ls) hc
    have HC:Hid (cut 61 (bl sk)=some (x,y)):=hc
    clear hc
    obtain⟨b1,hb1e⟩:∃b,ZC x=b:=⟨_,rfl⟩
    obtain⟨b2,hb2e⟩:∃b,y.isEmpty=b:=⟨_,rfl⟩
    obtain⟨b3,hb3e⟩:∃b,Z7 y=b:=⟨_,rfl⟩
    obtain⟨b4,hb4e⟩:∃b,leS x (bl ls)=b:=⟨_,rfl⟩
    rw[hb1e,hb2e,hb3e,hb4e]at hlab
    have HB:Hid (ZC x=b1/\y.isEmpty=b2/\Z7 y=b3/\leS x (bl ls)=b4):=⟨hb1e,hb2e,hb3e,hb4e⟩
    clear hb1e hb2e hb3e hb4e
    have hcase:(b1=true/\b2=false/\b3=true/\b4=false)∨(b1=false∨(b1=true/\b2=true)∨(b1=true/\b2=false/\b3=false)∨(b1=true/\b2=false/\b3=true/\b4=true)):=by
     cases b1 <;> cases b2 <;> cases b3 <;> cases b4 <;> simp
    rcases hcase with ⟨rfl,rfl,rfl,rfl⟩|hcase
    ·have HF:Hid (Zby [] [] (split 44 (bl s))=Zby x (qs.map blP++[(x,y)]) ((split 44 (bl s)).drop (k+1))):=hid (by
      rw[HA.out];exact Zq5 hkl HK.out (by simpa using hlab))
     clear hlab
     go_wp2_with fail
     refine(ZdY m _ hsk6 hmr HC.out).mono ?_
     rintro e w2 ⟨a,b,rfl,hab,j,rfl⟩
     have hsa:a.size<=6000:=by rw[ZO hab.1];omega
     have hsb:b.size<=6000:=by rw[ZO hab.2];omega
     have f1:Hid (ZC (bl a)=true):=by rw[hab.1];exact HB.1
     have f2:b.toList.isEmpty=false:=by rw[Zba,hab.2];exact HB.2.1
     have f3:Hid (Z7 (bl b)=true):=by rw[hab.2];exact HB.2.2.1
     have f4:(Op.bytesLess a.toList ls.toList || a.toList == ls.toList)=false:=by rw[Zlf,hab.1];exact HB.2.2.2
     have HF2:Hid (Zby [] [] (split 44 (bl s))=Zby (bl a) ((qs++[(a,b)]).map blP) ((split 44 (bl s)).drop (k+1))):=by rw[List.map_append,List.map_singleton,blP,hab.1,hab.2];exact HF
     have HZ2:Hid (∀p∈qs++[(a,b)],p.1.size<=6000/\p.2.size<=6000):=hid (by
      intro p hp
      rcases List.mem_append.1 hp with h|h
      ·exact HZ.out p h
      ·rw[List.mem_singleton.1 h];exact⟨hsa,hsb⟩)
     have hown2:=ZsD hown j
     go_wp2_with (first|(go_at_call 120;refine(ZhI _ hsa f1.out).mono ?_;rintro e w' ⟨rfl,rfl⟩)|(go_at_call 121;refine(Zm7 _ hsb f3.out).mono ?_;rintro e w' ⟨rfl,rfl⟩)|(at_builtin;refine wpList_append_own _ rfl (.tmp 47) (.tmp 51) 204 rfl (w.heap.size+1) 394 i0 (.agg #[.string ByteArray.empty,.string ByteArray.empty]) 2 32 Tryz.underlying204 hi hz0 hz1 hz2 rfl (by decide) _ _ _ rfl (hown2.alloc _) ⟨wr.heap.size,0,none⟩ 1 1 [.string a,.string b] rfl rfl ?c1 ?c2 ?c3 ?c4 ?c5 ?_))
     case c1=>exact ZjV ((World.cell?_alloc_at _ _ _ _ rfl).trans rfl) ((World.cell?_alloc_at _ _ _ _ rfl).trans rfl)
     case c2=>intro u hu;simp at hu;rcases hu with rfl|rfl <;> rfl
     case c3=>unfold maxLen;omega
     case c4=>omega
     case c5=>simp;omega
     intro v' w3 hown3 hgrow _
     have hb3:Below (w.heap.size+1) w1 w3:=((Zg hbr j).alloc (by simp;omega) _).grown hgrow (by simp;omega) (fun q hq=>(hown2.lt q hq).1)
     have hown4:w3.ownsRow (w.heap.size+1) 394 2 v' (k+1) (ZbD (qs++[(a,b)])):=by rw[ZkI];exact hown3
     clear hown2 hown hgrow hown3
     go_wp2
     go_roundw
     case rel=>exact⟨k+1,a,_,by omega,by go_num,rfl,hown4,HF2,hb3,HZ2⟩
     case measure=>simp[intOf];omega
    ·have HF:Hid (Zby [] [] (split 44 (bl s))=none):=hid (by
      rw[HA.out];refine Zld hkl HK.out ?_
      rw[hlab]
      rcases hcase with rfl|⟨rfl,rfl⟩|⟨rfl,rfl,rfl⟩|⟨rfl,rfl,rfl,rfl⟩ <;> simp)
     clear hlab
     go_wp2_with fail
     refine(ZdY m _ hsk6 hmr HC.out).mono ?_
     rintro e w2 ⟨a,b,rfl,hab,j,rfl⟩
     have hsa:a.size<=6000:=by rw[ZO hab.1];omega
     have hsb:b.size<=6000:=by rw[ZO hab.2];omega
     have f1:Hid (ZC (bl a)=b1):=by rw[hab.1];exact HB.1
     have f2:b.toList.isEmpty=b2:=by rw[Zba,hab.2];exact HB.2.1
     have f3:Hid (Z7 (bl b)=b3):=by rw[hab.2];exact HB.2.2.1
     have f4:(Op.bytesLess a.toList ls.toList || a.toList == ls.toList)=b4:=by rw[Zlf,hab.1];exact HB.2.2.2
     rcases hcase with rfl|⟨rfl,rfl⟩|⟨rfl,rfl,rfl⟩|⟨rfl,rfl,rfl,rfl⟩
     all_goals
      go_wp2_with (first|(go_at_call 120;refine(ZhI _ hsa f1.out).mono ?_;rintro e w' ⟨rfl,rfl⟩)|(go_at_call 121;refine(Zm7 _ hsb f3.out).mono ?_;rintro e w' ⟨rfl,rfl⟩))
      go_ret2
      exact⟨none,0,0,false,rfl,⟨by rw[HF.out];rfl,fun h=>nomatch h⟩,hb1.trans (Zg (hbr.mono (by omega)) _)⟩
  ·have HF:Hid (Zby [] [] (split 44 (bl s))=some (qs.map blP)):=hid (by
    rw[HA.out];exact Zq6 (by rw[<-HP.out];exact hlt))
   obtain⟨av,cp,hv⟩:=Zr hown
   rw[hv]
   rw[hv]at hown
   have hk6:k<=6001:=by omega
   go_wp2
   go_ret2
   exact⟨_,_,_,true,rfl,⟨by rw[HF.out];rfl,fun _=>⟨qs,⟨ZiT hown,hk6,HZ.out⟩,HF.out⟩⟩,hb1.trans (hbr.mono (by omega))⟩
theorem ZjO:(Tryz.prog.info? 175).map (·.size)=some 2:=by kernel_rfl
theorem Zn6:liesAt Tryz.prog Tryz.prog.depth 175 (2 / Tryz.prog.cellsOf 175) 0 175 1=true:=by kernel_rfl
theorem Zn2:(Tryz.prog.info? 5).map (fun i=>(i.zero,i.size,i.bytes))=some (some (.int .u8 0),1,1):=by kernel_rfl
theorem Zn5(b:Nat)(w:World)(h0:w.cell? ⟨b,0,none⟩=some (.pointer (some ⟨b,0,none⟩))) :
  Calls Tryz.prog 193 #[.pointer (some ⟨b,0,none⟩)] w fun e w'=>e=.returned (.tuple #[])/\w'=w:=by
 obtain⟨j,hj,_⟩:=Option.map_eq_some_iff.1 ZjO
 go_enter Tryz.func193,Tryz.ntmps193
 go_wp2
 rw[Lib.run_neq_ptr_same w _ Tryz.underlying173 hj]
 go_wp2
 go_end0
 exact⟨rfl,rfl⟩
theorem Zn4(b:Nat)(w:World)(h0:w.cell? ⟨b,0,none⟩=some (.pointer none))(hsh:w.shape? b=some (175,2))(hfz:w.frozen? ⟨b,0,none⟩=false) :
  Calls Tryz.prog 193 #[.pointer (some ⟨b,0,none⟩)] w fun e w'=>e=.returned (.tuple #[])/\w'=w.setCell ⟨b,0,none⟩ (.pointer (some ⟨b,0,none⟩)):=by
 obtain⟨j,hj,hjs⟩:=Option.map_eq_some_iff.1 ZjO
 go_enter Tryz.func193,Tryz.ntmps193
 go_wp2
 rw[Lib.run_to_unsafe w ⟨b,0,none⟩ Tryz.underlying173 Tryz.underlying193 hj (by rw[hjs];decide) hsh (Nat.zero_lt_succ 1)]
 simp only[Result.andThen]
 rw[Oper.upon_value]
 go_wp2
 rw[run_callFunc_extern Tryz.func241 (by kernel_rfl) (by kernel_rfl) (by kernel_rfl) (e:=Extern.AbiNoEscape.same) (by kernel_rfl)]
 rw[Lib.run_noEscape]
 simp only[Result.andThen]
 rw[Oper.upon_value]
 go_wp2
 rw[Lib.run_from_unsafe w ⟨b,0,none⟩ Tryz.underlying193 Tryz.underlying173 hj hsh Zn6]
 simp only[Result.andThen]
 rw[Oper.upon_value]
 go_wp2
 go_end0
 exact⟨rfl,rfl⟩
theorem Zn3(B b:Nat)(bs:List Value)(w:World)(h:Lib.IsBuilderF 175 5 B b bs w) :
  Calls Tryz.prog 193 #[.pointer (some ⟨b,0,none⟩)] w fun e w'=>e=.returned (.tuple #[])/\(Lib.BuilderAtF 175 5 B b (.pointer (some ⟨b,0,none⟩)) bs w'/\Below B w w'/\Lib.OthersKept 5 (some b) w w'):=by
 rcases h with h|h
 ·refine(Zn4 b w h.cell0 h.shape h.frozen0).mono ?_
  rintro e w' ⟨rfl,rfl⟩
  exact⟨rfl,h.used _,(Below.refl B w).setCell (p:=⟨b,0,none⟩) h.1 _,(Lib.OthersKept.refl _ _ w).setCell ⟨b,0,none⟩ rfl _⟩
 ·refine(Zn5 b w h.cell0).mono ?_
  rintro e w' ⟨rfl,rfl⟩
  exact⟨rfl,h,Below.refl B _,Lib.OthersKept.refl _ _ _⟩
theorem ZfQ(B b:Nat)(bs:List Value)(s:ByteArray)(w:World)(h:Lib.IsBuilderF 175 5 B b bs w)(hlen:bs.length+s.size<=140737488355328)(hBw:B<=w.heap.size) :
  Calls Tryz.prog 129 #[.pointer (some ⟨b,0,none⟩),.string s] w fun e w'=>e=.returned (.tuple #[.int .i64 s.size,.nilIface])/\(Lib.BuilderAtF 175 5 B b (.pointer (some ⟨b,0,none⟩)) (bs++Lib.strCells s) w'/\Below B w w'/\Lib.OthersKept 5 (some b) w w'):=by
 obtain⟨i0,hi,hz0,hz1,hz2⟩:=info_parts Zn2
 go_enter Tryz.func129,Tryz.ntmps129
 go_wp2_with fail
 refine(Zn3 B b bs _ h).mono ?_
 rintro e w1 ⟨rfl,h1,hb1,hk1⟩
 obtain⟨hB,v,hbk,hown,hne⟩:=h1
 have c0:w1.cell? ⟨b,0,none⟩=some (.pointer (some ⟨b,0,none⟩)):=by rw[Lib.cell_of_heap hbk];rfl
 have c1:w1.cell? ⟨b,1,none⟩=some v:=by rw[Lib.cell_of_heap hbk];rfl
 go_wp2_with (at_builtin;refine Lib.wpList_append_own_stringF _ rfl _ _ 41 9 rfl B 5 i0 Tryz.underlying41 Tryz.underlying9 hi hz0 hz1 hz2 _ _ _ rfl hown s rfl ?c3 ?c4 ?c5 ?_)
 case c3=>unfold maxLen;omega
 case c4=>omega
 case c5=>have:=hb1.size;omega
 intro v' w2 hown' hgrow _
 have hlt:b<w1.heap.size:=by
  rcases Nat.lt_or_ge b w1.heap.size with h'|h'
  ·exact h'
  ·simp[Array.getElem?_eq_none h']at hbk
 have hb2:w2.heap[b]?=some (.cells #[.pointer (some ⟨b,0,none⟩),v] 175 (0,0)):=by
  rw[hgrow.block b hlt (fun e=>hne e.symm)]
  exact hbk
 have d0:w2.cell? ⟨b,0,none⟩=some (.pointer (some ⟨b,0,none⟩)):=by rw[Lib.cell_of_heap hb2];rfl
 have d1:w2.cell? ⟨b,1,none⟩=some v:=by rw[Lib.cell_of_heap hb2];rfl
 have f1:w2.frozen? ⟨b,1,none⟩=false:=Lib.frozen_of_heap hb2 1
 obtain⟨ao,n',cap,rfl⟩:∃ao n' cap,v'=.slice ao n' cap:=by
  rcases hown'.2 with ⟨hv,_⟩|⟨g,cap,cur,fz,hv,_⟩
  ·exact⟨_,_,_,hv⟩
  ·exact⟨_,_,_,hv⟩
 go_wp2
 go_ret2
 refine⟨rfl,?_,?_,(hk1.grown hgrow (Lib.ownsRowF_kind hown)).setCell ⟨b,1,none⟩ rfl _⟩
 ·exact Lib.BuilderAtF.put (T:=175) (e:=5) hB hb2 (bs':=bs++Lib.strCells s) (by simpa [Lib.strCells_length] using hown') (by decide)
 ·exact(hb1.grown hgrow (by have:=hb1.size;omega) (fun k hk=>(hown.lt k hk).1)).setCell (p:=⟨b,1,none⟩) hB _
end Go.Proofs.YtkodhpilkaihjaaGreatDoor

/- Parts. -/
import Derived.Test.YtkodhpilkaihjaaGreatDoorF14
import Derived.Test.YtkodhpilkaihjaaGreatDoorF02
import Derived.Test.YtkodhpilkaihjaaGreatDoorF05
import Derived.Test.YtkodhpilkaihjaaGreatDoorF09
import Derived.Test.YtkodhpilkaihjaaGreatDoorF12
import Derived.Test.YtkodhpilkaihjaaGreatDoorFX
import Derived.Test.YtkodhpilkaihjaaGreatDoorF10
import Derived.WalkSmall
import Derived.Test.YtkodhpilkaihjaaGreatDoorF21
import Derived.Test.YtkodhpilkaihjaaGreatDoorF17
import Derived.Deep.AppendLies
import Derived.Test.YtkodhpilkaihjaaGreatDoorF11
import Derived.Test.YtkodhpilkaihjaaGreatDoorF20
set_option maxRecDepth 100000
set_option maxHeartbeats 8000000
set_option linter.unusedSimpArgs false
namespace Go.Proofs.YtkodhpilkaihjaaGreatDoor
open Go.RowKit LS
theorem ZsK{w:World}{base:Nat}{e:TypeId}{g n cap:Nat}{xs:List Value}(h:w.ownsRow base e 1 (.slice (some ⟨g,0,none⟩) n cap) n xs)(i:Nat)(u:Value):(w.setCell ⟨g,i,none⟩ u).ownsRow base e 1 (.slice (some ⟨g,0,none⟩) n cap) n (xs.set i u):=by
 obtain⟨hl,h⟩:=h
 refine⟨by rw[List.length_set];exact hl,?_⟩
 rcases h with ⟨h,_⟩|⟨g',cap',cur,hv,hb,hh,hn,hc,hs,ht⟩
 ·cases h
 ·injection hv with h1 _ h3
  injection h1 with h1
  injection h1 with h1
  subst h1 h3
  refine Or.inr ⟨g,cap,cur.setIfInBounds i u,rfl,hb,?_,hn,hc,by simpa using hs,?_⟩
  ·simp[World.setCell,Array.getElem?_modify,hh]
  ·rw[Nat.mul_one]at ht ⊢
   rw[<-ht,Array.toList_setIfInBounds,List.take_set]
theorem Zux(c k:Nat)(f:Nat->Value)(z:Value)(hk:k<c):((List.range k).map f++List.replicate (c - k) z).set k (f k)=(List.range (k+1)).map f++List.replicate (c - (k+1)) z:=by
 have e:c - k=(c - (k+1))+1:=by omega
 rw[e,List.replicate_succ,List.set_append_right _ _ (by simp),List.range_succ,List.map_append,List.append_assoc]
 simp
theorem Tryz.infoInt3:(Tryz.prog.info? 3).map (fun i=>(i.zero,i.size,i.bytes))=some (some (.int .i64 0),1,8):=by kernel_rfl
theorem ZeU (t : Int) (w : World) : Calls Tryz.prog 92 #[.int .i64 t] w fun e w' => e = .returned (.bool (decide (-1000000 <= t) && decide (t <= 1000000))) /\ w' = w := by
  by_cases h1 : -1000000<=t
  · by_cases h2:t<=1000000
    · rw[show(decide (-1000000<=t) && decide (t<=1000000))=true by simp;omega]
      go_enter Tryz.func92,Tryz.ntmps92
      go_wp2
      go_ret
      exact⟨rfl,rfl⟩
    · rw[show(decide (-1000000<=t) && decide (t<=1000000))=false by simp;omega]
      go_enter Tryz.func92,Tryz.ntmps92
      go_wp2
      go_ret
      exact⟨rfl,rfl⟩
  · rw[show(decide (-1000000<=t) && decide (t<=1000000))=false by simp;omega]
    go_enter Tryz.func92,Tryz.ntmps92
    go_wp2
    go_ret
    exact⟨rfl,rfl⟩
def TimP(w':World)(f l s:Int)(ft:Addr)(tv ev:Value):Prop:=(Zb9 f l s=none/\tv=.slice none 0 0/\ev=.iface 491 (.pointer (some ft)))∨(∃ts,Zb9 f l s=some ts/\ts.length<=50/\(∀t∈ts,-1000000<=t/\t<=1000000)/\ev=.nilIface/\w'.ownsRow 0 3 1 tv ts.length (ts.map (Value.int .i64)))
theorem ZrY(n:Nat):(madeCells #[Value.int .i64 0] n).toList=List.replicate n (Value.int .i64 0):=by
 refine List.ext_getElem (by simp[madeCells]) (fun i h1 h2=>?_)
 simp[madeCells,Nat.mod_one]
theorem Zl8(f l s:Int)(ft:Addr)(w:World)(hft:w.cell? ⟨7,0,none⟩=some (.iface 491 (.pointer (some ft)))) :
  Calls Tryz.prog 46 #[.agg #[.int .i64 f,.int .i64 l,.int .i64 s]] w fun e w'=>∃tv ev,e=.returned (.tuple #[tv,ev])/\Hid (TimP w' f l s ft tv ev)/\Below w.heap.size w w':=by
 obtain⟨i0,hi,hz0,hz1,hz2⟩:=info_parts Tryz.infoInt3
 have hgl:7<w.heap.size:=World.block_lt_of_cell? _ _ hft
 have hft1:∀o,(w.alloc o).cell? ⟨7,0,none⟩=some (.iface 491 (.pointer (some ft))):=fun o=>by rw[World.cell?_alloc_lt _ _ _ hgl];exact hft
 by_cases hb:badT f l s
 ·have HT:Hid (∀w',TimP w' f l s ft (.slice none 0 0) (.iface 491 (.pointer (some ft)))):=hid (fun w'=>Or.inl ⟨by unfold Zb9;rw[if_pos hb],rfl,rfl⟩)
  by_cases c1:(-1000000<=f/\f<=1000000)
  ·obtain⟨d1,d2⟩:=c1
   by_cases c2:(-1000000<=l/\l<=1000000)
   ·obtain⟨d3,d4⟩:=c2
    by_cases c3:l<f
    ·clear hb
     go_enter Tryz.func46,Tryz.ntmps46
     go_wp2_with (go_at_call 92;refine(ZeU _ _).mono ?_;rintro e w' ⟨rfl,rfl⟩)
     go_region
     all_goals (try go_wp2)
     all_goals (go_ret2;exact⟨_,_,rfl,hid (HT.out _),(by repeat first|exact Below.refl _ _|assumption|refine Below.alloc ?_ ?_ _|refine Below.setCell ?_ ?_ _|refine Zg ?_ _|refine Below.drew ?_|omega|(simp;omega)|simp)⟩)
    ·by_cases c4:s<1
     ·clear hb
      go_enter Tryz.func46,Tryz.ntmps46
      go_wp2_with (go_at_call 92;refine(ZeU _ _).mono ?_;rintro e w' ⟨rfl,rfl⟩)
      go_region
      all_goals (try go_wp2)
      all_goals (go_ret2;exact⟨_,_,rfl,hid (HT.out _),(by repeat first|exact Below.refl _ _|assumption|refine Below.alloc ?_ ?_ _|refine Below.setCell ?_ ?_ _|refine Zg ?_ _|refine Below.drew ?_|omega|(simp;omega)|simp)⟩)
     ·have c5:1000000<s:=by unfold badT at hb;omega
      clear hb
      go_enter Tryz.func46,Tryz.ntmps46
      go_wp2_with (go_at_call 92;refine(ZeU _ _).mono ?_;rintro e w' ⟨rfl,rfl⟩)
      go_region
      all_goals (try go_wp2)
      all_goals (go_ret2;exact⟨_,_,rfl,hid (HT.out _),(by repeat first|exact Below.refl _ _|assumption|refine Below.alloc ?_ ?_ _|refine Below.setCell ?_ ?_ _|refine Zg ?_ _|refine Below.drew ?_|omega|(simp;omega)|simp)⟩)
   ·have c3:(decide (-1000000<=l) && decide (l<=1000000))=false:=by simp;omega
    clear hb c2
    go_enter Tryz.func46,Tryz.ntmps46
    go_wp2_with (go_at_call 92;refine(ZeU _ _).mono ?_;rintro e w' ⟨rfl,rfl⟩)
    go_region
    all_goals (try go_wp2)
    all_goals (go_ret2;exact⟨_,_,rfl,hid (HT.out _),(by repeat first|exact Below.refl _ _|assumption|refine Below.alloc ?_ ?_ _|refine Below.setCell ?_ ?_ _|refine Zg ?_ _|refine Below.drew ?_|omega|(simp;omega)|simp)⟩)
  ·have c3:(decide (-1000000<=f) && decide (f<=1000000))=false:=by simp;omega
   clear hb c1
   go_enter Tryz.func46,Tryz.ntmps46
   go_wp2_with (go_at_call 92;refine(ZeU _ _).mono ?_;rintro e w' ⟨rfl,rfl⟩)
   go_region
   all_goals (try go_wp2)
   all_goals (go_ret2;exact⟨_,_,rfl,hid (HT.out _),(by repeat first|exact Below.refl _ _|assumption|refine Below.alloc ?_ ?_ _|refine Below.setCell ?_ ?_ _|refine Zg ?_ _|refine Below.drew ?_|omega|(simp;omega)|simp)⟩)
 ·have HG:Hid (Zb9 f l s=if 50<cnt l s f then none else some ((List.range (cnt l s f)).map fun(i:Nat)=>f+(i:Int)*s)):=hid (ZmV hb)
  have hbd : -1000000<=f/\f<=1000000/\-1000000<=l/\l<=1000000/\1<=s/\s<=1000000/\f<=l:=by unfold badT at hb;omega
  obtain⟨d1,d2,d3,d4,d5,d6,d7⟩:=hbd
  clear hb
  obtain⟨m,hm⟩:∃m:Nat,(l - f).tdiv s=(m:Int):=⟨((l - f).tdiv s).toNat,by have:=Int.tdiv_nonneg (a:=l - f) (b:=s) (by omega) (by omega);omega⟩
  have hmc:cnt l s f=m+1:=by
   unfold cnt
   rw[if_pos d7,<-Int.tdiv_eq_ediv_of_nonneg (by omega),hm]
   omega
  have hmb:m<=2000000:=by
   have h1:((l - f).tdiv s).natAbs<=(l - f).natAbs:=by rw[Int.natAbs_tdiv];exact Nat.div_le_self _ _
   rw[hm]at h1
   omega
  rw[hmc]at HG
  have hs0:(s == 0)=false:=by rw[beq_eq_false_iff_ne];omega
  have hs1:s≠0:=by omega
  clear hmc
  by_cases h50:50<m+1
  ·have HT:Hid (∀w',TimP w' f l s ft (.slice none 0 0) (.iface 491 (.pointer (some ft)))):=hid (fun w'=>Or.inl ⟨by rw[HG.out,if_pos h50],rfl,rfl⟩)
   have h51:(50:Int)<(m:Int)+1:=by omega
   go_enter Tryz.func46,Tryz.ntmps46
   go_wp2_with (go_at_call 92;refine(ZeU _ _).mono ?_;rintro e w' ⟨rfl,rfl⟩)
   go_region
   all_goals (try go_wp2)
   all_goals (go_ret2;exact⟨_,_,rfl,hid (HT.out _),(by repeat first|exact Below.refl _ _|assumption|refine Below.alloc ?_ ?_ _|refine Below.setCell ?_ ?_ _|refine Zg ?_ _|refine Below.drew ?_|omega|(simp;omega)|simp)⟩)
  ·have HT:Hid (Zb9 f l s=some ((List.range (m+1)).map fun(i:Nat)=>f+(i:Int)*s)):=hid (by rw[HG.out,if_neg h50])
   have h51:(m:Int)+1<=50:=by omega
   have HLT : Hid (∀ i, i < m + 1 -> -1000000 <= f + (i : Int) * s /\ f + (i : Int) * s <= 1000000) := hid (fun i hi' => by
     have h1:(i:Int)*s<=(m:Int)*s:=Int.mul_le_mul_of_nonneg_right (by omega) (by omega)
     have h2:(m:Int)*s<=l - f:=by
       rw[<-hm,Int.tdiv_eq_ediv_of_nonneg (by omega)]
       exact Int.ediv_mul_le _ hs1
     have h3:0<=(i:Int)*s:=Int.mul_nonneg (by omega) (by omega)
     omega)
   go_enter Tryz.func46,Tryz.ntmps46
   go_wp2_with (first
     | (go_at_call 92;refine(ZeU _ _).mono ?_;rintro e w' ⟨rfl,rfl⟩)
     | (at_make;refine wpList_make_full _ rfl _ _ 53 rfl w.heap.size 3 i0 _ 1 Tryz.underlying53 hi hz0 hz1 _ _ _ _ (m+1) rfl rfl ?e1 ?e2 ?b2 ?b3 ?b4 ?_))
   case e1=>rfl
   case e2=>rfl
   case b2=>rw[hz2];omega
   case b3=>unfold maxLen;omega
   case b4=>simp
   rw[ZrY]
   intro w2 hown2 hgrow2
   have HBX:Hid (BAt w2 w.heap.size [.int .i64 f,.int .i64 l,.int .i64 s] 26):=hid ((hgrow2.block _ (by simp) (by simp)).trans (Go.Deep.blk_alloc_new _ _))
   have HB2:Hid (Below w.heap.size w w2):=hid (Zbal.grown hgrow2 (by simp) (fun q hq=>by cases hq))
   clear hgrow2 hm hft1
   have hgl2:w.heap.size+1<w2.heap.size:=ZbX hown2
   go_wp2
   go_loopw [50] (fun i wr => ∃ k : Nat, k <= m + 1 /\ i = .int .i64 k /\ Hid (wr.ownsRow w.heap.size 3 1 (.slice (some ⟨w.heap.size + 1, 0, none⟩) (m + 1) (m + 1)) (m + 1) ((List.range k).map (fun (i : Nat) => Value.int .i64 (f + (i : Int) * s)) ++ List.replicate (m + 1 - k) (Value.int .i64 0))) /\ Hid (BAt wr w.heap.size [.int .i64 f, .int .i64 l, .int .i64 s] 26) /\ Hid (Below w.heap.size w wr))
     (fun i _=>m+1 - (intOf i).toNat)
   case atStart=>exact⟨0,Nat.zero_le _,rfl,hid (by simpa using hown2),HBX,HB2⟩
   case round=>
    obtain⟨k,hk,rfl,HOW,HX,HB⟩:=hrel
    by_cases hlt:k<m+1
    ·have x0:=HX.cell 0
     have x2:=HX.cell 2
     simp only[Zget]at x0 x2
     have hks:=HLT.out k hlt
     have hk3:0<=(k:Int)*s:=Int.mul_nonneg (by omega) (by omega)
     have hkw:(Go.IntKind.i64).wrap ((k:Int)*s)=(k:Int)*s:=by
      generalize(k:Int)*s=ks at *
      rw[IntKind.wrap_i64];omega
     have hfw:(Go.IntKind.i64).wrap (f+(k:Int)*s)=f+(k:Int)*s:=by
      generalize(k:Int)*s=ks at *
      rw[IntKind.wrap_i64];omega
     have hcell:wr.cell? ⟨w.heap.size+1,k,none⟩=some (.int .i64 0):=Zj HOW.out _ _ (by rw[List.getElem?_append_right (by simp),List.length_map,List.length_range,Nat.sub_self,List.getElem?_replicate,if_pos (by omega)])
     have hfz:wr.frozen? ⟨w.heap.size+1,k,none⟩=false:=by
      rcases HOW.2 with ⟨h,_⟩|⟨g,cap,cur,h,_,hh,_⟩
      ·cases h
      ·injection h with h1
       injection h1 with h1
       injection h1 with h1
       subst h1
       simp[World.frozen?,hh]
     have hkz:(k:Int)<(m:Int)+1:=by omega
     have HO2 : Hid ((wr.setCell ⟨w.heap.size + 1, k, none⟩ (.int .i64 (f + (k : Int) * s))).ownsRow w.heap.size 3 1 (.slice (some ⟨w.heap.size + 1, 0, none⟩) (m + 1) (m + 1)) (m + 1) ((List.range (k + 1)).map (fun (i : Nat) => Value.int .i64 (f + (i : Int) * s)) ++ List.replicate (m + 1 - (k + 1)) (Value.int .i64 0))) := hid (by
       have:=ZsK HOW.out k (.int .i64 (f+(k:Int)*s))
       rw[Zux (m+1) k (fun(i:Nat)=>Value.int .i64 (f+(i:Int)*s)) _ hlt]at this
       exact this)
     go_wp2
     go_roundw
     case rel=>exact⟨k+1,by omega,by go_num,HO2,hid (HX.other (p:=⟨w.heap.size+1,k,none⟩) (by show w.heap.size≠w.heap.size+1;omega) _),hid (HB.setCell (p:=⟨w.heap.size+1,k,none⟩) (by show w.heap.size<=w.heap.size+1;omega) _)⟩
     case measure=>simp[intOf];omega
    ·obtain rfl:k=m+1:=by omega
     have HTP : Hid (TimP wr f l s ft (.slice (some ⟨w.heap.size + 1, 0, none⟩) (m + 1) (m + 1)) .nilIface) := hid (Or.inr ⟨_, HT.out, by simp; omega, fun t ht => by
       obtain⟨i,hi',rfl⟩:=List.mem_map.1 ht
       exact HLT.out i (List.mem_range.1 hi'),rfl,by
       have h1:=HOW.out
       rw[Nat.sub_self,List.replicate_zero,List.append_nil]at h1
       rw[List.length_map,List.length_range,List.map_map]
       exact h1.mono (Nat.zero_le _)⟩)
     go_wp2
     go_ret2
     exact⟨_,_,rfl,HTP,HB.out⟩
theorem ZjJ{T e:TypeId}{B b:Nat}{p:Value}{bs:List Value}{w w':World}(h:Lib.BuilderAtF T e B b p bs w)(hb:Below w.heap.size w w'):Lib.BuilderAtF T e B b p bs w':=by
 obtain⟨h1,v,h2,⟨h3,h4⟩,h5⟩:=h
 refine⟨h1,v,(hb.block b (Array.getElem?_eq_some_iff.1 h2).1).trans h2,⟨h3,?_⟩,h5⟩
 rcases h4 with h6|⟨g,cap,cur,fz,h6,h7,h8,h9⟩
 ·exact Or.inl h6
 ·exact Or.inr ⟨g,cap,cur,fz,h6,h7,(hb.block g (Array.getElem?_eq_some_iff.1 h8).1).trans h8,h9⟩
theorem Zn1{T e:TypeId}{B b:Nat}{bs:List Value}{w w':World}(h:Lib.IsBuilderF T e B b bs w)(hb:Below w.heap.size w w'):Lib.IsBuilderF T e B b bs w':=by
 rcases h with h|h
 ·exact Or.inl (ZjJ h hb)
 ·exact Or.inr (ZjJ h hb)
theorem ZsC{e:TypeId}{b:Option Nat}{w w':World}(h:Below w.heap.size w w'):Lib.OthersKept e b w w':=fun k _ hk _ _=>(h.block k (Array.getElem?_eq_some_iff.1 hk).1).trans hk
structure WB (w:World) (B b:Nat) (l:List UInt8):Prop where
 bd:Lib.IsBuilderF 175 5 B b (Lib.byteCells l) w
 le:B<=w.heap.size
structure WK (B b:Nat) (w w':World):Prop where
 low:Below B w w'
 kept:Lib.OthersKept 5 (some b) w w'
theorem WK.trans{B b:Nat}{w1 w2 w3:World}(h:WK B b w1 w2)(h':WK B b w2 w3):WK B b w1 w3:=⟨h.low.trans h'.low,h.kept.trans h'.kept⟩
theorem WK.below{B b:Nat}{w w':World}(h:Below w.heap.size w w')(hB:B<=w.heap.size):WK B b w w':=⟨h.mono hB,ZsC h⟩
theorem WB.below{w w':World}{B b:Nat}{l:List UInt8}(h:WB w B b l)(hb:Below w.heap.size w w'):WB w' B b l:=⟨Zn1 h.bd hb,Nat.le_trans h.le hb.size⟩
theorem WB.ne{w:World}{B b:Nat}{l:List UInt8}(h:WB w B b l):b<w.heap.size/\∃c,w.heap[b]?=some (.cells c 175 (0,0)):=by
 rcases h.bd with h|h
 ·obtain⟨_,v,hb,_⟩:=h;exact⟨(Array.getElem?_eq_some_iff.1 hb).1,_,hb⟩
 ·obtain⟨_,v,hb,_⟩:=h;exact⟨(Array.getElem?_eq_some_iff.1 hb).1,_,hb⟩
theorem WK.block{w w':World}{B b:Nat}{l:List UInt8}(hw:WB w B b l)(h:WK B b w w'){a:Nat}{c:Array Value}{t:TypeId}{fr:Nat×Nat}(ha:w.heap[a]?=some (.cells c t fr))(h1:t≠175)(h2:t≠5):w'.heap[a]?=some (.cells c t fr):=by
 refine h.kept a _ ha ?_ ?_
 ·intro e
  injection e with e
  subst e
  obtain⟨_,c',hb⟩:=hw.ne
  rw[hb]at ha
  injection ha with ha
  injection ha with _ ha
  exact h1 ha.symm
 ·intro c' fz e
  injection e with _ e
  exact h2 e
theorem WK.bat{w w':World}{B b:Nat}{l:List UInt8}(hw:WB w B b l)(h:WK B b w w'){a:Nat}{c:List Value}{t:TypeId}(ha:BAt w a c t)(h1:t≠175)(h2:t≠5):BAt w' a c t:=WK.block hw h ha h1 h2
theorem WK.own{w w':World}{B b:Nat}{l:List UInt8}(hw:WB w B b l)(h:WK B b w w'){base:Nat}{e:TypeId}{size:Nat}{v:Value}{n:Nat}{xs:List Value}(ho:w.ownsRow base e size v n xs)(h1:e≠175)(h2:e≠5):w'.ownsRow base e size v n xs:=by
 refine⟨ho.1,?_⟩
 rcases ho.2 with h3|⟨g,cap,cur,h3,h4,h5,h6⟩
 ·exact Or.inl h3
 ·exact Or.inr ⟨g,cap,cur,h3,h4,WK.block hw h h5 h1 h2,h6⟩
theorem Zd.wrote{w w':World}{B b:Nat}{l:List UInt8}(hw:WB w B b l)(h:WK B b w w'){t:Tr}{v:Value}(hp:Zd w t v):Zd w' t v:=
 Zd.mono (fun _ _ ⟨bs,h1,h2⟩=>⟨bs,WK.own hw h h1 (by decide) (by decide),h2⟩) (fun _ _ ⟨bs,h1,h2⟩=>⟨bs,WK.own hw h h1 (by decide) (by decide),h2⟩) t v hp
theorem ZA.wrote{w w':World}{B b:Nat}{l:List UInt8}(hw:WB w B b l)(h:WK B b w w'){v:Value}{cs:List (List UInt8×List UInt8×Bool)}(hp:ZA w v cs):ZA w' v cs:=by
 obtain⟨bs,h1,h2⟩:=hp;exact⟨bs,WK.own hw h h1 (by decide) (by decide),h2⟩
theorem ZjR(l:List UInt8)(s:ByteArray):Lib.byteCells l++Lib.strCells s=Lib.byteCells (l++bl s):=by
 unfold Lib.byteCells Lib.strCells bl
 rw[List.map_append]
def big:Nat:=1000000
theorem ZcR{w:World}{B b:Nat}{l:List UInt8}(h:WB w B b l)(s:ByteArray)(hl:l.length+s.size<=big) :
  Calls Tryz.prog 129 #[.pointer (some ⟨b,0,none⟩),.string s] w fun e w'=>e=.returned (.tuple #[.int .i64 s.size,.nilIface])/\Hid (WB w' B b (l++bl s))/\Hid (WK B b w w'):=by
 refine(ZfQ B b (Lib.byteCells l) s w h.bd (by rw[Lib.byteCells_length];unfold big at hl;omega) h.le).mono ?_
 rintro e w' ⟨rfl,h1,h2,h3⟩
 rw[ZjR]at h1
 exact⟨rfl,⟨Or.inr h1,Nat.le_trans h.le h2.size⟩,⟨h2,h3⟩⟩
theorem Zie(n:Nat):Lib.decDigits n=decS n:=by
 induction n using Nat.strongRecOn with
 | _ n ih=>
  by_cases h:n<=9
  ·rw[ZgU h,Lib.decDigits,dif_pos (by omega)]
   rfl
  ·rw[Zic h,Lib.decDigits,dif_neg (by omega),ih (n / 10) (by omega)]
   rfl
def Zx (w : World) : Prop := Lib.TabIs Tryz.prog w "internal/strconv.uint64pow10" .u64 Lib.pow10Tab
theorem Tryz.gPow : Tryz.prog.globalNamed "internal/strconv.uint64pow10" = some 17 := by kernel_rfl
theorem Zx.low{w w':World}{B:Nat}(h:Zx w)(hb:Below B w w')(hB:20<=B):Zx w':=var?_below hb Tryz.gPow (Nat.lt_of_lt_of_le (by decide) hB) h
theorem Zk4{w:World}(h:Zx w)(n:Int)(h0:0<=n)(h1:n<=1000000000) :
  Calls Tryz.prog 130 #[.int .i64 n] w fun e w'=>∃s:ByteArray,e=.returned (.string s)/\Hid (bl s=decS n.toNat)/\Below w.heap.size w w':=by
 refine(Tryz.strconv_Itoa n (by omega) (by omega) w h).mono ?_
 rintro e w' ⟨rfl,k,os,rfl⟩
 refine⟨_,rfl,hid ?_,?_⟩
 ·rw[Zbu];unfold Lib.itoa;rw[if_neg (by omega),Zie]
 ·exact⟨rfl,rfl,rfl,by simp[Go.Sort.grow,World.drewN],fun k hk=>by simp[Go.Sort.grow,World.drewN,Array.getElem?_append,hk]⟩
theorem Zhl{w:World}{B b:Nat}{l:List UInt8}(h:WB w B b l)(s:ByteArray)(hl:l.length+s.size<=140737488355328) :
  Calls Tryz.prog 129 #[.pointer (some ⟨b,0,none⟩),.string s] w fun e w'=>e=.returned (.tuple #[.int .i64 s.size,.nilIface])/\Hid (WB w' B b (l++bl s))/\Hid (WK B b w w'):=by
 refine(ZfQ B b (Lib.byteCells l) s w h.bd (by rw[Lib.byteCells_length];omega) h.le).mono ?_
 rintro e w' ⟨rfl,h1,h2,h3⟩
 rw[ZjR]at h1
 exact⟨rfl,⟨Or.inr h1,Nat.le_trans h.le h2.size⟩,⟨h2,h3⟩⟩
theorem Zg1{w:World}(h:Zx w)(n:Int)(hn:vOk n) :
  Calls Tryz.prog 130 #[.int .i64 n] w fun e w'=>∃s:ByteArray,e=.returned (.string s)/\Hid (bl s=decI n)/\s.size<=1000000002/\Below w.heap.size w w':=by
 have hlen:=Zib n hn
 unfold vOk at hn
 refine(Tryz.strconv_Itoa n (by omega) (by omega) w h).mono ?_
 rintro e w' ⟨rfl,k,os,rfl⟩
 have he:Lib.itoa n=decI n:=by
  unfold Lib.itoa decI
  by_cases hneg:n<0
  ·rw[if_pos hneg,if_pos hneg,Zie];rfl
  ·rw[if_neg hneg,if_neg hneg,Zie]
 refine⟨_,rfl,hid ?_,?_,?_⟩
 ·rw[Zbu,he]
 ·show(Lib.itoa n).toArray.size<=_
  rw[he];simpa using hlen
 ·exact⟨rfl,rfl,rfl,by simp[Go.Sort.grow,World.drewN],fun k hk=>by simp[Go.Sort.grow,World.drewN,Array.getElem?_append,hk]⟩
theorem LbOk.size{w:World}{a:Option Addr}{n c:Nat}{tx:ByteArray}{qs:List (ByteArray×ByteArray)}(h:LbOk w a n c tx qs):tx.size<=108018:=by
 rw[<-Ze,h.txt];exact h.wf.len
def Zcm(t:Int)(is:List Itm):List UInt8:=decI t++((is.map Itm.el).map elS).flatten
theorem Zrz(t:Int)(l:List Itm)(s:Itm):Zcm t (l++[s])=Zcm t l++elS s.el:=by
 unfold Zcm;simp
theorem ZoU{s:Itm}(h1:(wrt s.labs).length<=108018)(h2:vOk s.v):(elS s.el).length<=1000108030:=by
 have:=Zib s.v h2
 show([32,123]++wrt s.labs++[125]++decI s.v).length<=_
 simp only[List.length_append,List.length_cons,List.length_nil]
 omega
theorem Zli{t:Int}(ht:vOk t):∀is:List Itm,(∀i∈is,(wrt i.labs).length<=108018/\vOk i.v)->(Zcm t is).length<=1000000002+1000108030*is.length
 | [],_=>by have:=Zib t ht;simpa [Zcm] using this
 | s :: is, h => by
   have h1:=Zli ht is (fun i hi=>h i (List.mem_cons_of_mem _ hi))
   have h2:=ZoU (h s (by simp)).1 (h s (by simp)).2
   have e:(Zcm t (s::is)).length=(Zcm t is).length+(elS s.el).length:=by
     unfold Zcm
     simp only[List.map_cons,List.flatten_cons,List.length_append]
     omega
   rw[e,List.length_cons]
   omega
theorem ZrA(t:Int)(ht:vOk t)(v:Value)(n:Int)(w:World)(hv:ValP w v (.sc n))(hp:Zx w)(hB:20<=w.heap.size) :
  Calls Tryz.prog 94 #[.int .i64 t,v] w fun e w'=>∃r:ByteArray,e=.returned (.string r)/\Hid (bl r=Zc7 t (.sc n))/\r.size<=40000000000/\Below w.heap.size w w':=by
 have HP:Hid (Zx w):=hp
 have HNG:Hid (20<=w.heap.size):=hB
 have HT:Hid (vOk t):=ht
 clear hp hB ht
 obtain⟨rfl,hn'⟩:=hv
 have HN:Hid (vOk n):=hn'
 have h1:=asSS (.int .i64 n)
 clear hn'
 go_enter Tryz.func94,Tryz.ntmps94
 go_wp2_with fail
 refine Zn fun W hW=>?_
 have hbW:Below w.heap.size w W:=by rw[hW];exact Zbal
 have HWW:Hid (WB W w.heap.size w.heap.size []):=hid ⟨Or.inl ⟨Nat.le_refl _,.slice none 0 0,by rw[hW];exact Go.Deep.blk_alloc_new _ _,⟨rfl,Or.inl ⟨rfl,rfl⟩⟩,by simp[Value.ownBlock]⟩,hbW.size⟩
 have HBW:Hid (Below w.heap.size w W):=hid hbW
 have HPW:=hid (HP.low hbW HNG.out)
 clear hW hbW
 refine(Zg1 HPW.out t HT.out).mono ?_
 rintro e w1 ⟨s1,rfl,HS1,hz1,hb1⟩
 have HW1:=hid (HWW.below hb1)
 have HB1:Hid (Below w.heap.size w w1):=hid (HBW.trans (hb1.mono HBW.size))
 have HP1:=hid (HPW.low hb1 (by have:=HNG.out;have:=HBW.size;omega))
 clear hb1 HWW HBW HPW
 go_wp2_with fail
 refine(Zhl HW1.out s1 (by simp;omega)).mono ?_
 rintro e w2 ⟨rfl,HW2,HK2⟩
 have HB2:Hid (Below w.heap.size w w2):=hid (HB1.trans HK2.low)
 have HP2:=hid (HP1.low HK2.low HNG.out)
 clear HW1 HB1 HP1
 go_wp2_with fail
 refine(Zg1 HP2.out n HN.out).mono ?_
 rintro e w3 ⟨s3,rfl,HS3,hz3,hb3⟩
 have HW3:=hid (HW2.below hb3)
 have HB3:Hid (Below w.heap.size w w3):=hid (HB2.trans (hb3.mono HB2.size))
 clear hb3 HW2 HB2
 have HSZ:Hid ((⟨#[32]⟩++s3:ByteArray).size=1+s3.size):=hid (by rw[ByteArray.size_append];rfl)
 have HBX:Hid (bl (⟨#[32]⟩++s3:ByteArray)=[32]++decI n):=hid (by rw[Zew,HS3.out];rfl)
 go_wp2_with fail
 generalize(⟨#[32]⟩++s3:ByteArray)=x at HSZ HBX ⊢
 have hzx:x.size<=1000000003:=by have:=HSZ.out;omega
 clear HSZ
 refine(Zhl HW3.out x (by have b:([]++bl s1).length=s1.size:=(by rw[List.nil_append,Ze]);omega)).mono ?_
 rintro e w4 ⟨rfl,HW4,HK4⟩
 have HB4:Hid (Below w.heap.size w w4):=hid (HB3.trans HK4.low)
 have HE:Hid ([]++bl s1++bl x=Zc7 t (.sc n)):=hid (by rw[HBX.out,HS1.out];show[]++decI t++([32]++decI n)=decI t++[32]++decI n;simp)
 have HSZ5:Hid (([]++bl s1++bl x).length<=40000000000):=hid (by have b:([]++bl s1++bl x).length=s1.size+x.size:=(by rw[List.nil_append,List.length_append,Ze,Ze]);omega)
 generalize[]++bl s1++bl x=z at HW4 HE HSZ5
 go_wp2_with fail
 refine(Tryz.Builder_String_any_f w.heap.size w.heap.size _ w4 HW4.bd HW4.le).mono ?_
 rintro e w5 ⟨rfl,_,hb5⟩
 have HB5:Hid (Below w.heap.size w w5):=hid (HB4.trans hb5)
 clear hb5 HK4
 go_wp2
 go_ret
 exact⟨_,rfl,hid (by rw[Zbu,HE.out]),by have a:=HSZ5.out;rw[<-List.size_toArray]at a;exact a,HB5.out⟩
theorem ZrB(t:Int)(ht:vOk t)(v:Value)(l:List El)(w:World)(hv:ValP w v (.vec l))(hn:VOk 30 (.vec l))(hp:Zx w)(hB:20<=w.heap.size) :
  Calls Tryz.prog 94 #[.int .i64 t,v] w fun e w'=>∃r:ByteArray,e=.returned (.string r)/\Hid (bl r=Zc7 t (.vec l))/\r.size<=40000000000/\Below w.heap.size w w':=by
 have HP:Hid (Zx w):=hp
 have HNG:Hid (20<=w.heap.size):=hB
 have HT:Hid (vOk t):=ht
 clear hp hB ht
 obtain⟨s,is,rfl,hvv⟩:=hv
 have hlen:is.length<=30:=by rw[<-hvv.len'];exact hn.2
 obtain⟨ra,rcp,rfl⟩:=Zr hvv.row
 have HV:Hid (VecV w (.slice ra is.length rcp) l is):=hvv
 have HLS : Hid (∀ k, (Zcm t (is.take k)).length <= 40000000000 - 2000000000) := hid (fun k => by
   have:=Zli HT.out (is.take k) (fun i hi=>⟨(hvv.ok i (List.mem_of_mem_take hi)).lb.wf.len,(hvv.ok i (List.mem_of_mem_take hi)).vok⟩)
   rw[List.length_take]at this
   omega)
 have h1:=asVS (.slice ra is.length rcp)
 have h2:=asVV (.slice ra is.length rcp)
 clear hn hvv
 go_enter Tryz.func94,Tryz.ntmps94
 go_wp2_with fail
 refine Zn fun W hW=>?_
 have hbW:Below w.heap.size w W:=by rw[hW];exact Zbal
 have HWW:Hid (WB W w.heap.size w.heap.size []):=hid ⟨Or.inl ⟨Nat.le_refl _,.slice none 0 0,by rw[hW];exact Go.Deep.blk_alloc_new _ _,⟨rfl,Or.inl ⟨rfl,rfl⟩⟩,by simp[Value.ownBlock]⟩,hbW.size⟩
 have HBW:Hid (Below w.heap.size w W):=hid hbW
 have HPW:=hid (HP.low hbW HNG.out)
 clear hW hbW
 refine(Zg1 HPW.out t HT.out).mono ?_
 rintro e w1 ⟨s1,rfl,HS1,hz1,hb1⟩
 have HW1:=hid (HWW.below hb1)
 have HB1:Hid (Below w.heap.size w w1):=hid (HBW.trans (hb1.mono HBW.size))
 clear hb1 HWW HBW HPW
 go_wp2_with fail
 refine(Zhl HW1.out s1 (by simp;omega)).mono ?_
 rintro e w2 ⟨rfl,HW2,HK2⟩
 have HB2:Hid (Below w.heap.size w w2):=hid (HB1.trans HK2.low)
 have HW2':Hid (WB w2 w.heap.size w.heap.size (Zcm t [])):=hid (by have:=HW2.out;rw[HS1.out]at this;simpa [Zcm] using this)
 clear HW1 HB1 HW2 HK2
 go_wp2
 go_loopw [26] (fun i wr=>∃k:Nat,k<=is.length/\i=.int .i64 k/\Hid (WB wr w.heap.size w.heap.size (Zcm t (is.take k)))/\Hid (Below w.heap.size w wr)) (fun i _=>is.length - (intOf i).toNat)
 case atStart=>exact⟨0,Nat.zero_le _,rfl,HW2',HB2⟩
 case round=>
  rename World=>wo
  obtain⟨k,hk,rfl,HWB,HB⟩:=hrel
  have hwo:=HB.size
  by_cases hlt:k<is.length
  ·have hg:∃g,ra=some ⟨g,0,none⟩:=by
    obtain⟨g,cp',h⟩:=ZV HV.row (by omega)
    injection h with h1;exact⟨g,h1⟩
   obtain⟨vg,rfl⟩:=hg
   have HVR:=hid (Zm HV.row HB.out)
   obtain⟨f1,f2,f3⟩:=ZeA is k hlt
   have d1:=Zj HVR.out _ _ f1
   have d2:=Zj HVR.out _ _ f2
   have d3:=Zj HVR.out _ _ f3
   have HSO:=hid (HV.ok _ (List.getElem_mem hlt))
   have HTK:Hid (Zcm t (is.take (k+1))=Zcm t (is.take k)++elS (is[k]).el):=hid (by rw[List.take_succ_eq_append_getElem hlt];exact Zrz _ _ _)
   generalize is[k]=s at *
   have hsz:=HSO.lb.size
   have q1:¬9223372036854775807<2+s.tx.size:=by omega
   have q2:¬9223372036854775807<2+s.tx.size+1:=by omega
   clear f1 f2 f3 HVR
   have hkz:(k:Int)<(is.length:Int):=by omega
   go_upto_region 12 with fail
   refine ZK fun W hW=>?_
   have hbW:Below wo.heap.size wo W:=by rw[hW];exact Zbal
   have HX:Hid (BAt W wo.heap.size [.slice s.a s.n s.c,.string s.tx,.int .i64 s.v] 344):=hid (by rw[hW];exact Go.Deep.blk_alloc_new _ _)
   have HWW:=hid (HWB.below hbW)
   have HBW:Hid (Below w.heap.size w W):=hid (HB.trans (hbW.mono hwo))
   clear hW hbW d1 d2 d3 HWB HB
   have hwW:=HBW.size
   have x0:=HX.cell 0
   have x1:=HX.cell 1
   have x2:=HX.cell 2
   simp only[Zget]at x0 x1 x2
   have HSB:Hid (∀w',BAt w' wo.heap.size [.slice s.a s.n s.c,.string s.tx,.int .i64 s.v] 344->w'.cell? ⟨wo.heap.size,0,none⟩=some (.slice s.a s.n s.c)/\w'.cell? ⟨wo.heap.size,1,none⟩=some (.string s.tx)/\w'.cell? ⟨wo.heap.size,2,none⟩=some (.int .i64 s.v)):=hid (fun w' h=>⟨h.cell 0,h.cell 1,h.cell 2⟩)
   go_region_held3 (fun w' => w'.cell? ⟨wo.heap.size, 0, none⟩ = some (.slice s.a s.n s.c) /\ w'.cell? ⟨wo.heap.size, 1, none⟩ = some (.string s.tx) /\ w'.cell? ⟨wo.heap.size, 2, none⟩ = some (.int .i64 s.v)) (first | exact ⟨x0, x1, x2⟩ | exact HSB.out _ HX7.out | exact HSB.out _ HX6.out | exact HSB.out _ HX5.out | go_keep) (first
     | (go_at_call 159
        refine(Zfm _ _ _ _ _).mono ?_
        rintro e w5 ⟨rfl,o5,hw5⟩
        have HB5:Hid (Below W.heap.size W w5):=hid (by rw[hw5];exact((Below.refl _ _).drew).alloc (Nat.le_refl _) _)
        have HX5:=hid (HX.below HB5.out)
        clear hw5)
     | (go_at_call 130
        refine(Zg1 (HP.low (HBW.trans (HB5.mono hwW)) HNG.out) s.v HSO.vok).mono ?_
        rintro e w6 ⟨s6,rfl,HS6,hz6,hb6⟩
        have HB6:Hid (Below W.heap.size W w6):=hid (HB5.trans (hb6.mono HB5.size))
        have HX6:=hid (HX.below HB6.out)
        have HSZ6:Hid ((⟨#[32,123]⟩++s.tx++⟨#[125]⟩++s6:ByteArray).size=2+s.tx.size+1+s6.size):=hid (by rw[ByteArray.size_append,ByteArray.size_append,ByteArray.size_append];rfl)
        have HBL6:Hid (bl (⟨#[32,123]⟩++s.tx++⟨#[125]⟩++s6:ByteArray)=elS s.el):=hid (by
          rw[Zew,Zew,Zew,HS6.out,HSO.lb.txt];rfl)
        have q3:¬9223372036854775807<2+s.tx.size+1+s6.size:=by omega
        clear hb6)
     | (go_at_call 129
        generalize(⟨#[32,123]⟩++s.tx++⟨#[125]⟩++s6:ByteArray)=x6 at HSZ6 HBL6 ⊢
        have hzx:x6.size<=1000108030:=(by have:=HSZ6.out;omega)
        clear HSZ6
        refine(Zhl (HWW.below HB6.out) x6 (by have:=HLS.out k;omega)).mono ?_
        rintro e w7 ⟨rfl,HW7,HK7⟩
        have HX7:Hid (BAt w7 wo.heap.size [.slice s.a s.n s.c,.string s.tx,.int .i64 s.v] 344):=hid (WK.bat (HWW.below HB6.out) HK7.out HX6.out (by decide) (by decide))))
   have HWf:Hid (WB w7 w.heap.size w.heap.size (Zcm t (is.take (k+1)))):=hid (by rw[HTK.out,<-HBL6.out];exact HW7.out)
   have HBf:Hid (Below w.heap.size w w7):=hid ((HBW.trans (HB6.mono hwW)).trans HK7.low)
   go_wp2
   go_roundw
   case rel=>exact⟨k+1,by omega,by go_num,HWf,HBf⟩
   case measure=>simp[intOf];omega
  ·obtain rfl:k=is.length:=by omega
   rw[List.take_length]at HWB
   have HE:Hid (Zcm t is=Zc7 t (.vec l)):=hid (by unfold Zcm;rw[HV.els];rfl)
   go_wp2_with fail
   refine(Tryz.Builder_String_any_f w.heap.size w.heap.size _ wo HWB.bd HWB.le).mono ?_
   rintro e w5 ⟨rfl,_,hb5⟩
   have HB5:Hid (Below w.heap.size w w5):=hid (HB.trans hb5)
   clear hb5
   go_wp2
   go_ret
   exact⟨_,rfl,hid (by rw[Zbu,HE.out]),by have a:=HLS.out is.length;rw[List.take_length,<-List.size_toArray]at a;exact Nat.le_trans a (by omega),HB5.out⟩
theorem Zlj(t:Int)(ht:vOk t)(v:Value)(V:VV)(w:World)(hv:ValP w v V)(hn:VOk 30 V)(hp:Zx w)(hB:20<=w.heap.size) :
  Calls Tryz.prog 94 #[.int .i64 t,v] w fun e w'=>∃r:ByteArray,e=.returned (.string r)/\Hid (bl r=Zc7 t V)/\r.size<=40000000000/\Below w.heap.size w w':=by
 cases V with
 | sc n=>exact ZrA t ht v n w hv hp hB
 | vec l=>exact ZrB t ht v l w hv hn hp hB
theorem BAt.alloc{w:World}{a:Nat}{c:List Value}{t:TypeId}(h:BAt w a c t)(o:Obj):BAt (w.alloc o) a c t:=h.below Zbal
def ZbJ:List (List UInt8)->List UInt8
 | []=>[]
 | [a]=>a
 | a::b::l=>a++10::ZbJ (b::l)
theorem ZiL (w : World) : Calls Tryz.prog 93 #[] w fun e w' => e = .returned (.pointer (some ⟨w.heap.size + 1, 0, none⟩)) /\ Hid (MapX w' w.heap.size) /\ Hid (BAt w' (w.heap.size + 1) [.map (some w.heap.size)] 339) /\ w'.heap.size = w.heap.size + 2 /\ Below w.heap.size w w' := by
  have hmm:=@run_makeMap Tryz.prog
  go_enter Tryz.func93,Tryz.ntmps93
  go_wp2
  go_ret
  have h1:Below w.heap.size w (w.alloc (.map #[] 0)):=Zbal
  refine⟨rfl,hid ⟨#[],0,(Zbal.block _ (by simp)).trans (Go.Deep.blk_alloc_new _ _)⟩,hid ?_,by simp,h1.alloc (by simp) _⟩
  have:=Go.Deep.blk_alloc_new (w.alloc (.map #[] 0)) (.cells #[.map (some w.heap.size)] 339)
  rw[Go.Deep.nblk_alloc]at this
  exact this
theorem MapX.below{w w':World}{x:Nat}(h:MapX w x)(hb:Below w.heap.size w w'):MapX w' x:=by
 obtain⟨es,cl,hx⟩:=h
 exact⟨es,cl,(hb.block x (Array.getElem?_eq_some_iff.1 hx).1).trans hx⟩
theorem MapX.grown{w w':World}{x:Nat}{r:Option Nat}(h:MapX w x)(hg:w.grownBy w' r)(hn:some x≠r):MapX w' x:=by
 obtain⟨es,cl,hx⟩:=h
 exact⟨es,cl,(hg.block x (Array.getElem?_eq_some_iff.1 hx).1 hn).trans hx⟩
theorem BAt.set1{w:World}{a:Nat}{p q r x:Value}{t:TypeId}(h:BAt w a [p,q,r] t):BAt (w.setCell ⟨a,1,none⟩ x) a [p,x,r] t:=by
 unfold BAt at h
 unfold BAt
 simp only[World.setCell,Array.getElem?_modify,h,if_true,Option.map_some];rfl
theorem Zk5:∀l:List (List UInt8),Lib.join l [10]=ZbJ l
 | []=>rfl
 | [a]=>by simp[Lib.join,List.intercalate,ZbJ]
 | a :: b :: l => by
   have ih:=Zk5 (b::l)
   rw[ZbJ,<-ih]
   simp[Lib.join,List.intercalate]
theorem Zk6{n:Nat} : ∀l:List (List UInt8),(∀x∈l,x.length<=n)->(ZbJ l).length<=l.length*(n+1)
 | [],_=>Nat.zero_le _
 | [a],h=>by have:=h a (by simp);simp only[ZbJ,List.length_cons,List.length_nil];omega
 | a :: b :: l, h => by
   have ih:=Zk6 (b::l) (fun x hx=>h x (List.mem_cons_of_mem _ hx))
   have ha:=h a (by simp)
   have e:(ZbJ (a::b::l)).length=a.length+((ZbJ (b::l)).length+1):=by rw[ZbJ,List.length_append,List.length_cons]
   rw[e,List.length_cons,Nat.succ_mul]
   omega
theorem Zk7{w:World}{v:Value}{B:Nat}(bs:List ByteArray)(h:w.ownsRow B 9 1 v bs.length (ZZ bs))(hl:bs.length<=50)(hs:∀b∈bs,b.size<=40000000000) :
  Calls Tryz.prog 96 #[v,.string ⟨#[10]⟩] w fun e w'=>∃s:ByteArray,e=.returned (.string s)/\Hid (bl s=ZbJ (bs.map bl))/\Below w.heap.size w w':=by
 by_cases hz:bs.length=0
 ·obtain⟨la,lc,rfl⟩:=Zr h
  rw[hz]
  refine(Tryz.strings_Join_none la lc ⟨#[10]⟩ w).mono ?_
  rintro e w' ⟨rfl,rfl⟩
  have:bs=[]:=List.eq_nil_of_length_eq_zero hz
  subst this
  exact⟨_,rfl,hid rfl,Below.refl _ _⟩
 ·obtain⟨g,lc,rfl⟩:=ZV h (by omega)
  have hj:Lib.join (bs.map (·.data.toList)) [10]=ZbJ (bs.map bl):=Zk5 _
  have hcm:=Zk6 (n:=40000000000) (bs.map bl) (fun x hx=>by obtain⟨b,hb,rfl⟩:=List.mem_map.1 hx;rw[Ze];exact hs b hb)
  rw[List.length_map]at hcm
  have hcm2:(ZbJ (bs.map bl)).length<=140737488355328:=by omega
  have hcap:bs.length<=lc:=by
   rcases h.2 with ⟨e,_⟩|⟨g',cap,cur,e,_,_,hc,_⟩
   ·cases e
   ·injection e with _ _ e;subst e;exact hc
  rw[<-hj]at hcm2
  refine(Tryz.strings_Join g 0 lc bs ⟨#[10]⟩ w ?_ (ZbX h) (by omega) hcap hcm2).mono ?_
  ·intro j x hj
   rw[Nat.zero_add]
   exact Zj h j _ (by show(bs.map Value.string)[j]?=_;rw[List.getElem?_map,hj];rfl)
  ·rintro e w' ⟨rfl,hb⟩
   exact⟨_,rfl,hid (by show bl (ByteArray.mk (Lib.join (bs.map (·.data.toList)) [10]).toArray)=_;rw[Zbu,hj]),hb⟩
end Go.Proofs.YtkodhpilkaihjaaGreatDoor

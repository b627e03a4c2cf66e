/- Parts. -/
import Derived.Test.YtkodhpilkaihjaaGreatDoorF19
import Derived.Test.YtkodhpilkaihjaaGreatDoorFX
import Derived.RangeFuncNested
import Derived.RangeFuncBound
import Derived.RangeFuncCalls
import Derived.RangeFuncLeaves
import Derived.RangeFuncBox
import Derived.Maps.AppendAt
import Derived.Shelf.Abstract
import Derived.Shelf.RegionOpen
import Derived.WalkKit
import Derived.OwnWalkIn
import Derived.TacticsInMore
import Derived.LoopNIn
import Derived.LoopIn
import Derived.Sort.OwnSorted
import Derived.Maps.RangeRun
import Derived.Maps.Keyed
set_option maxRecDepth 100000
set_option maxHeartbeats 4000000
namespace Go.Proofs.YtkodhpilkaihjaaGreatDoor
open Go.RowKit LS
attribute [local go_sem] Oper.semAt_some
def Zd9(bs:List ByteArray)(k:Nat):List ByteArray:=(List.range k).map fun j=>bs[j]?.getD ByteArray.empty
theorem ZvI(bs:List ByteArray)(k:Nat):Zd9 bs (k+1)=Zd9 bs k++[bs[k]?.getD ByteArray.empty]:=by simp[Zd9,List.range_succ]
theorem ZvH(bs:List ByteArray)(k:Nat):(Zd9 bs k).length=k:=by simp[Zd9]
theorem ZvG(bs:List ByteArray):Zd9 bs bs.length=bs:=by
 apply List.ext_getElem
 ·simp[Zd9]
 ·intro i h1 h2
  simp[Zd9,h2]
theorem Zm6(n:Nat)(hn:1<=n)(l Bs n₀ b len cap:Nat)(bs:List ByteArray)(hreach:len<=100000)(hb:b<n₀)(J Jx:List ByteArray->World->Prop)
  (hY:∀pre x W,J pre W->pre.length<len->YieldAt Fence.wide (n - 1) Tryz.prog l #[.string x] W fun e W'=>
   (e=.returned (.bool true)/\J (pre++[x]) W'/\Below n₀ W W')∨(e=.returned (.bool false)/\Jx (pre++[x]) W'))
  (W:World) (hBs:W.cell? ⟨Bs,0,none⟩=some (.slice (some ⟨b,0,none⟩) len cap)) (hc:∀j,j<len->W.cell? ⟨b,j,none⟩=some (.string (bs[j]?.getD ByteArray.empty))) (h0:J [] W) :
  CallsIn Fence.wide n Tryz.prog 218 #[.func (.yield l) #[] #[], .pointer (some ⟨Bs, 0, none⟩)] W fun e W' => (∃ v, e = .returned v) /\
    ((∃ys,ys=Zd9 bs len/\J ys W')∨(∃pre,True/\Jx pre W')):=by
 refine callsIn_of_wp Tryz.func218 rfl trivial ?_ rfl
 simp only[Tryz.ntmps218,List.size_toArray,List.length_cons,List.length_nil,Nat.reduceAdd,Nat.reduceSub,Array.replicate_succ,Array.replicate_zero,List.push_toArray,List.append_toArray,List.nil_append,List.cons_append]
 gi_wp2
 gi_loopw [7] (fun i wr => ∃ k : Nat, k <= len /\ i = .int .i64 k /\ J (Zd9 bs k) wr /\ Below n₀ W wr)
   (fun i _=>len - (intOf i).toNat)
 case atStart=>exact⟨0,Nat.zero_le _,rfl,h0,Below.refl _ _⟩
 case round=>
  obtain⟨k,hk,rfl,hJs,hnx⟩:=hrel
  have hcx:k<len->wr.cell? ⟨b,k,none⟩=some (.string (bs[k]?.getD ByteArray.empty)):=fun h=>(hnx.cell (p:=⟨b,k,none⟩) hb).trans (hc k h)
  by_cases hlt:k<len
  ·obtain⟨fn,tmps,assign,body,hy,hR⟩:=hY _ (bs[k]?.getD ByteArray.empty) wr hJs (by rw[ZvH];exact hlt)
   have hcx':=hcx hlt
   gi_wp2
   refine hR.mono ?_
   rintro e W3 (⟨rfl,hJ3,hk3⟩|⟨rfl,hJx3⟩)
   ·gi_wp2
    go_roundw
    case rel=>exact⟨k+1,by omega,by simp,by rw[ZvI];exact hJ3,hnx.trans hk3⟩
    case measure=>simp[intOf];omega
   ·gi_wp2
    refine bodyPost_ret (results_none rfl _ _ _) rfl ?_
    exact⟨⟨_,rfl⟩,.inr ⟨_,trivial,hJx3⟩⟩
  ·obtain rfl:k=len:=by omega
   gi_wp2
   go_end0
   exact⟨⟨_,rfl⟩,.inl ⟨_,rfl,hJs⟩⟩
theorem ZvM(n:Nat)(l Bs:Nat)(J:List ByteArray->World->Prop)(W:World)(hBs:W.cell? ⟨Bs,0,none⟩=some (.slice none 0 0))(h0:J [] W) :
  CallsIn Fence.wide n Tryz.prog 218 #[.func (.yield l) #[] #[],.pointer (some ⟨Bs,0,none⟩)] W fun e W'=>(∃v,e=.returned v)/\J [] W':=by
 refine callsIn_of_wp Tryz.func218 rfl trivial ?_ rfl
 simp only[Tryz.ntmps218,List.size_toArray,List.length_cons,List.length_nil,Nat.reduceAdd,Nat.reduceSub,Array.replicate_succ,Array.replicate_zero,List.push_toArray,List.append_toArray,List.nil_append,List.cons_append]
 gi_wp2
 gi_loopw [7] (fun i wr=>i=.int .i64 0/\J [] wr) (fun _ _=>0)
 case atStart=>exact⟨rfl,h0⟩
 case round=>
  obtain⟨rfl,hJs⟩:=hrel
  gi_wp2
  go_end0
  exact⟨⟨_,rfl⟩,hJs⟩
theorem ZvR(sv:Value)(w:World)(a:Option Addr)(len cap:Nat)(hsv:sv=.slice a len cap) :
  Calls Tryz.prog 164 #[sv] w fun e w'=>e=.returned (.func (.func 218) #[] #[.pointer (some ⟨w.heap.size,0,none⟩)])/\w'=w.alloc (.cells #[sv] 90):=by
 subst hsv
 go_enter Tryz.func164,Tryz.ntmps164
 go_wp2
 go_ret
 exact⟨rfl,rfl⟩
theorem ZvO(n:Nat)(hn:1<=n)(Bs:Nat)(sv:Value)(bs:List ByteArray)(hreach:bs.length<=100000)(w:World)(hBs:Bs<w.heap.size)(hc:w.cell? ⟨Bs,0,none⟩=some sv)(hI:w.ownsRow 0 9 1 sv bs.length (ZZ bs)) :
  SeqStopsK Fence.wide n Tryz.prog 218 #[.pointer (some ⟨Bs,0,none⟩)] (fun x:ByteArray=>#[Value.string x]) (Below w.heap.size) (fun ys=>ys=bs) (fun _=>True) bs.length w:=fun l J Jx W hW _ _ hY h0=>by
 have hc':=(hW.cell (p:=⟨Bs,0,none⟩) hBs).trans hc
 have hI':=Zm hI hW
 by_cases h0l:bs.length=0
 ·obtain rfl:bs=[]:=List.eq_nil_of_length_eq_zero h0l
  rcases hI.2 with ⟨rfl,_⟩|⟨g,cap,cur,rfl,_,hh,_⟩
  ·exact(ZvM n l Bs J W hc' h0).mono fun e W' ⟨he,hj⟩=>⟨he,.inl ⟨_,rfl,hj⟩⟩
  ·refine(Zm6 n hn l Bs w.heap.size g 0 cap [] (by omega) (Array.getElem?_eq_some_iff.1 hh).1 J Jx hY W hc' (fun j hj=>by omega) h0).mono ?_
   rintro e W' ⟨he,⟨ys,rfl,hj⟩|⟨pre,_,hj⟩⟩
   ·exact⟨he,.inl ⟨_,rfl,hj⟩⟩
   ·exact⟨he,.inr ⟨_,trivial,hj⟩⟩
 ·obtain⟨g,cp,rfl⟩:=ZV hI (by omega)
  refine (Zm6 n hn l Bs w.heap.size g bs.length cp bs hreach (ZbX hI) J Jx hY W hc' (fun j hj => by
    rw[List.getElem?_eq_getElem hj,Option.getD_some]
    exact Zj hI' _ _ (Zip bs j hj)) h0).mono ?_
  rintro e W' ⟨he,⟨ys,rfl,hj⟩|⟨pre,_,hj⟩⟩
  ·exact⟨he,.inl ⟨_,ZvG bs,hj⟩⟩
  ·exact⟨he,.inr ⟨_,trivial,hj⟩⟩
theorem Tryz.infoStrG:(Tryz.prog.info? 9).map (fun i=>(i.zero,i.size,i.bytes))=some (some (.string ByteArray.empty),1,16):=by kernel_rfl
theorem ZnF(n:Nat)(hn:2<=n)(Bs:Nat)(sv:Value)(bs:List ByteArray)(hreach:bs.length<=100000)(w:World)(hBs:Bs<w.heap.size)(hc:w.cell? ⟨Bs,0,none⟩=some sv)(hI:w.ownsRow 0 9 1 sv bs.length (ZZ bs)) :
  CallsIn Fence.wide n Tryz.prog 252 #[.slice none 0 0,.func (.func 218) #[] #[.pointer (some ⟨Bs,0,none⟩)]] w fun e W'=>∃v,e=.returned v/\W'.ownsRow w.heap.size 9 1 v bs.length (ZZ bs)/\Below w.heap.size w W':=by
 have h1:1<=n:=by omega
 obtain⟨i0,hi,hz0,hz1,hz2⟩:=info_parts Tryz.infoStrG
 refine callsIn_of_wp_marks Tryz.func252 rfl trivial ?_ rfl
 simp only[Tryz.ntmps252,List.size_toArray,List.length_cons,List.length_nil,Nat.reduceAdd,Nat.reduceSub,Array.replicate_succ,Array.replicate_zero,List.push_toArray,List.append_toArray,List.nil_append,List.cons_append]
 gi_wp2
 have bS:=Boxed.new w 90 (.slice none 0 0)
 have hB0:Below w.heap.size w (w.alloc (.cells #[.slice none 0 0] 90)):=(Below.refl _ w).alloc (Nat.le_refl _) _
 have hseq:=ZvO (n - 1) (by omega) Bs sv bs hreach w hBs hc hI
 refine wpIn_rangeFunc_ownG rfl h1 (gf := 218) (lb := #[.pointer (some ⟨Bs, 0, none⟩)]) rfl trivial (enters_of Tryz.func218 (by kernel_rfl) rfl)
   hseq belowK_t (belowK_b (by simp)) hB0 (fun _=>rfl)
   (fun pre W=>(∃v,Boxed W w.heap.size 90 v/\W.ownsRow w.heap.size 9 1 v pre.length (ZZ pre)/\True)/\Below w.heap.size w W)
   (fun _ _ _=>False)
   (OwnFrom.and (Own.from (holdsRow_own w.heap.size w.heap.size 90 9 1 (fun pre:List ByteArray=>pre.length) (fun pre=>ZZ pre) (fun _ _=>True)) _) (ownFrom_below (Nat.le_refl _) (by simp)))
   (fun _ _ _ _ _ hs _ _=>hs)
   ⟨⟨_,bS,World.ownsRow_nil _ _ _ _,trivial⟩,hB0⟩
   (fun x=>{ tmps:=#[.slice none 0 0,.func (.func 218) #[] #[.pointer (some ⟨Bs,0,none⟩)],.pointer (some ⟨w.heap.size,0,none⟩),undef,.slice none 0 0,.string x,.func (.func 218) #[] #[.pointer (some ⟨Bs,0,none⟩)],.string x,undef,undef,undef,undef,undef],defers:=[] }) ?assign ?body ?done ?stop
 case assign=>
  intro l x W K hK
  gi_wp2
  exact hK
 case body=>
  rintro l pre x W ⟨⟨v,hv,hrow,-⟩,hB⟩ hlt
  have hvc:=hv.cell
  have hsz:=hB.size
  gi_wp2_with (gi_at_builtin;refine wpListIn_append_own _ rfl _ _ 90 rfl w.heap.size 9 i0 (.string ByteArray.empty) 1 16 Tryz.underlying90 hi hz0 hz1 hz2 rfl (by decide) _ _ _ rfl (hrow.alloc _) ⟨W.heap.size,0,none⟩ 1 1 [.string x] rfl rfl (cell_one_new _ _ _) (by simp[Value.oneCell']) (by unfold maxLen;omega) (by omega) (by simp;omega) ?_;intro v' w1 hown' hgrow _;obtain⟨g',cap',rfl⟩:=ownsRow_succ hown';obtain⟨hv1,hv2,hr2,hk2,hb2⟩:=hv.appended (by decide) hrow hB.size (Nat.le_refl _) hown' hgrow;have hc1:=hv1.cell;have hf1:=hv1.frozen)
  exact⟨hk2.from _,hb2,⟨_,hv2,by rw[ZfV,List.length_append];exact hr2,trivial⟩,hB.trans hb2⟩
 case done=>
  rintro D ys W hD rfl ⟨⟨v,hv,hrow,-⟩,hB⟩ hK
  have hvc:=hv.cell
  gi_wp2
  refine⟨by simp,.inl ⟨_,_,rfl,run_takeDeferred hK,?_⟩⟩
  exact⟨_,results_tmp rfl _ _ _,v,rfl,ownsRow_putObj hrow _ hK rfl,hB.trans (belowK_b (w:=w) (Nat.le_refl _) W D _ _ (by simp at hD;omega) hK rfl rfl)⟩
 case stop=>
  rintro D c pre W _ _ h _
  exact h.elim
theorem Zov(Bs:Nat)(sv:Value)(bs:List ByteArray)(hreach:bs.length<=100000)(w:World)(hBs:Bs<w.heap.size)(hc:w.cell? ⟨Bs,0,none⟩=some sv)(hI:w.ownsRow 0 9 1 sv bs.length (ZZ bs)) :
  Calls Tryz.prog 216 #[.func (.func 218) #[] #[.pointer (some ⟨Bs,0,none⟩)]] w fun e W'=>∃v,e=.returned v/\W'.ownsRow w.heap.size 9 1 v bs.length (ZZ bs)/\Below w.heap.size w W':=by
 have hA:=callsIn_wide.1 (ZnF 2 (Nat.le_refl _) Bs sv bs hreach w hBs hc hI)
 have HA:Hid _:=hid hA
 clear hA hI hc
 go_enter Tryz.func216,Tryz.ntmps216
 go_wp2_with (go_at_call 252;refine HA.mono ?_;rintro e w5 ⟨v,rfl,hr,hb⟩)
 go_ret
 exact⟨v,rfl,hr,hb⟩
theorem Zg5(x y:List UInt8):decide (x<=y)=!Op.bytesLess y x:=by
 rw[bytesLess_eq,Bool.eq_iff_iff,decide_eq_true_iff,Bool.not_eq_true',decide_eq_false_iff_not]
 exact Iff.rfl
theorem ZuN (ss : List (List UInt8)) : (ss.mergeSort fun x y => decide (x <= y)).Pairwise fun a b => Op.bytesLess b a = false := by
  have h := List.pairwise_mergeSort (le := fun (x y : List UInt8) => decide (x <= y)) (by
    intro a b c h1 h2
    rw[Zg5,Bool.not_eq_true']at *
    cases h:Op.bytesLess c a with
    | false=>rfl
    | true=>
      cases h3:Op.bytesLess b c with
      | true=>rw[Zdy _ _ _ h3 h]at h1;cases h1
      | false=>
        have e:=Zdz _ _ h3 h2
        rw[e,h]at h1;cases h1) (by
    intro a b
    rw[Zg5,Zg5]
    cases h:Op.bytesLess b a with
    | false=>rfl
    | true=>
      cases h3:Op.bytesLess a b with
      | false=>rfl
      | true=>have:=Zdy _ _ _ h h3;rw[Zda]at this;cases this) ss
  refine h.imp (fun {a b} hab=>?_)
  rw[Zg5,Bool.not_eq_true']at hab
  exact hab
theorem Zkp(bs:List ByteArray):ZZ bs=(bs.map bl).map encStr:=by
 unfold ZZ
 rw[List.map_map]
 refine List.map_congr_left (fun b _=>?_)
 cases b with
 | mk d=>simp[encStr,bl]
theorem ZuP(Bs:Nat)(sv:Value)(bs:List ByteArray)(hreach:bs.length<=100000)(w:World)(hBs:Bs<w.heap.size)(hc:w.cell? ⟨Bs,0,none⟩=some sv)(hI:w.ownsRow 0 9 1 sv bs.length (ZZ bs)) :
  Calls Tryz.prog 163 #[.func (.func 218) #[] #[.pointer (some ⟨Bs,0,none⟩)]] w fun e W'=>∃v bs',e=.returned v/\Hid (W'.ownsRow 0 9 1 v bs'.length (ZZ bs')/\bs'.length=bs.length/\NmS bs'/\(∀x,x∈bs'.map bl ↔ x∈bs.map bl))/\Below w.heap.size w W':=by
 have HC:=hid (Zov Bs sv bs hreach w hBs hc hI)
 clear hI hc
 go_enter Tryz.func163,Tryz.ntmps163
 go_wp2_with fail
 refine HC.mono ?_
 rintro e W ⟨v,rfl,hrow,hb⟩
 by_cases h0:bs.length=0
 ·obtain rfl:bs=[]:=List.eq_nil_of_length_eq_zero h0
  obtain⟨av,cp,rfl⟩:=Zr hrow
  have HR:Hid _:=hid (hrow.mono (Nat.zero_le _))
  clear hrow
  go_wp2_with (go_at_call 217;refine(Tryz.slices_Sort_string_none _ _ _).mono ?_;rintro e w' ⟨rfl,rfl⟩)
  go_ret
  exact⟨_,[],rfl,hid ⟨HR.out,rfl,List.Pairwise.nil,fun x=>Iff.rfl⟩,hb⟩
 ·obtain⟨g,cp,rfl⟩:=ZV hrow (by omega)
  rcases hrow.2 with ⟨hv,_⟩|⟨g',cap,cur,hv,hbase,hh,r1,r2,r3,r4⟩
  ·cases hv
  injection hv with e1 e2 e3
  injection e1 with e1
  injection e1 with e1
  subst e1 e3
  have hgl:g<W.heap.size:=(Array.getElem?_eq_some_iff.1 hh).1
  obtain⟨ss,hss⟩:∃ss,ss=bs.map bl:=⟨_,rfl⟩
  have hsl:ss.length=bs.length:=by rw[hss,List.length_map]
  have hH:Sort.Holds encStr W g 0 ss.toArray:=holds_of_block hh (by rw[hsl];rw[Nat.mul_one,Zkp,<-hss]at r4;exact r4)
  have hS:=Tryz.slices_Sort_string g 0 cp ss W hH hgl (by omega)
  rw[hsl]at hS
  have HS:Hid _:=hid hS
  have HX:Hid (w.heap.size<=g/\W.heap[g]?=some (.cells cur 9 (0,0))/\bs.length<=cp/\cp<=maxLen/\cur.size=cp*1):=hid ⟨hbase,hh,r1,r2,r3⟩
  have HSS:Hid (ss=bs.map bl):=hss
  clear hS hH hrow hh hbase r1 r2 r3 r4 hss
  go_wp2_with (go_at_call 217;refine HS.mono ?_;rintro e w' ⟨rfl,nn,os,rfl⟩)
  go_ret
  obtain⟨q1,q2,q3,q4,q5⟩:=HX.out
  obtain⟨ms,hms⟩:∃ms,ms=ss.mergeSort (fun x y=>decide (x<=y)):=⟨_,rfl⟩
  have hperm:ms.Perm ss:=by rw[hms];exact List.mergeSort_perm _ _
  have hml:ms.length=ss.length:=hperm.length_eq
  have hbm : (ms.map (fun l => (⟨l.toArray⟩ : ByteArray))).map bl = ms := by
    rw[List.map_map]
    conv=>rhs;rw[<-List.map_id ms]
    exact List.map_congr_left (fun l _=>by simp[bl])
  refine⟨_,ms.map (fun l=>⟨l.toArray⟩),rfl,hid ⟨?_,by rw[List.length_map,hml,hsl],?_,fun x=>by rw[hbm,hperm.mem_iff,HSS.out]⟩,?_⟩
  ·have h6:=ownsRow_sorted (n:=nn) (os:=os) hml q1 q2 (by rw[hsl];exact q3) q4 q5
   rw[Zkp,hbm,List.length_map,hml,<-hms]
   rw[hsl]at h6 ⊢
   exact h6.mono (Nat.zero_le _)
  ·unfold NmS
   have:=ZuN ss
   rw[<-hms,<-hbm,List.pairwise_map]at this
   exact this
  ·exact hb.grown (grownBy_sorted _) hb.size (fun j hj=>by cases hj;exact q1)
end Go.Proofs.YtkodhpilkaihjaaGreatDoor
namespace Go.Proofs.YtkodhpilkaihjaaGreatDoor
open Go.RowKit LS
open Go.ChangeMaps (setBlock)
structure BelX (x B:Nat) (w w':World):Prop where
 os:w'.os=w.os
 tape:w'.tape=w.tape
 output:w'.output=w.output
 size:w.heap.size<=w'.heap.size
 block:∀k,k<B->k≠x->w'.heap[k]?=w.heap[k]?
theorem BelX.of{x B:Nat}{w w':World}(h:Below B w w'):BelX x B w w':=⟨h.os,h.tape,h.output,h.size,fun k hk _=>h.block k hk⟩
theorem BelX.trans{x B:Nat}{a b c:World}(h:BelX x B a b)(k:BelX x B b c):BelX x B a c:=⟨k.os.trans h.os,k.tape.trans h.tape,k.output.trans h.output,Nat.le_trans h.size k.size,fun j hj hx=>(k.block j hj hx).trans (h.block j hj hx)⟩
theorem BelX.mono{x B C:Nat}{w w':World}(h:BelX x C w w')(hB:B<=C):BelX x B w w':=⟨h.os,h.tape,h.output,h.size,fun k hk hx=>h.block k (by omega) hx⟩
theorem BelX.below{x B:Nat}{w w':World}(h:BelX x B w w')(hx:B<=x):Below B w w':=⟨h.os,h.tape,h.output,h.size,fun k hk=>h.block k hk (by omega)⟩
theorem BelX.set(x B:Nat)(w:World)(o':Obj):BelX x B w (setBlock w x o'):=⟨rfl,rfl,rfl,by simp[setBlock],fun k _ hx=>by simp[setBlock,Ne.symm hx]⟩
def MapX(w:World)(x:Nat):Prop:=∃es clock,w.heap[x]?=some (.map es clock)
theorem Zh.belX {x : Nat} {w w' : World} (h : BelX x w.heap.size w w') (hm : MapX w x) : Zh w w' := fun b c T fr hb => by
  obtain⟨es,cl,hx⟩:=hm
  refine(h.block b (Array.getElem?_eq_some_iff.1 hb).1 (fun e=>?_)).trans hb
  subst e
  rw[hx]at hb;cases hb
structure GEn where
 a:Option Addr
 n:Nat
 c:Nat
 tx:ByteArray
 qs:List (ByteArray×ByteArray)
 vals:List Int
def GEn.val(g:GEn):Value:=.agg (.slice g.a g.n g.c::.string g.tx::talC g.vals).toArray
def GEn.grp(g:GEn):Grp:=(g.qs.map blP,g.vals)
structure GEnOk (w:World) (g:GEn):Prop where
 lb:LbOk w g.a g.n g.c g.tx g.qs
 vok:∀v∈g.vals,vOk v
theorem GEnOk.keepsC{w w':World}{g:GEn}(h:GEnOk w g)(hk:Zh w w'):GEnOk w' g:=⟨h.lb.keepsC hk,h.vok⟩
structure MapG (w:World) (x:Nat) (gs:List GEn) (es:Array MapEntry) (clock:Nat):Prop where
 heap:w.heap[x]?=some (.map es clock)
 stm:MapKept.Stamped es clock
 kv:es.toList.map (fun e=>(e.key,e.val))=gs.map (fun g=>(Value.string g.tx,g.val))
 sz:∀g∈gs,g.tx.size<=maxLen
theorem MapG.len{w:World}{x:Nat}{gs:List GEn}{es:Array MapEntry}{clock:Nat}(h:MapG w x gs es clock):es.size=gs.length:=by
 have:=congrArg List.length h.kv
 simpa using this
theorem MapG.at{w:World}{x:Nat}{gs:List GEn}{es:Array MapEntry}{clock:Nat}(h:MapG w x gs es clock){j:Nat}{e:MapEntry}(he:es.toList[j]?=some e):∃hj:j<gs.length,e.key=.string gs[j].tx/\e.val=gs[j].val:=by
 have h1:(es.toList.map (fun e=>(e.key,e.val)))[j]?=(gs.map (fun g=>(Value.string g.tx,g.val)))[j]?:=by rw[h.kv]
 rw[List.getElem?_map,he,List.getElem?_map]at h1
 have hj:j<gs.length:=by
  rcases Nat.lt_or_ge j gs.length with h2|h2
  ·exact h2
  ·rw[List.getElem?_eq_none h2]at h1;cases h1
 rw[List.getElem?_eq_getElem hj]at h1
 simp only[Option.map_some,Option.some.injEq,Prod.mk.injEq]at h1
 exact⟨hj,h1.1,h1.2⟩
theorem MapG.keys {w : World} {x : Nat} {gs : List GEn} {es : Array MapEntry} {clock : Nat} (h : MapG w x gs es clock) : ∀ e ∈ es.toList, ∃ l, keyOf Tryz.prog 9 e.key = some l := fun e he => by
  obtain⟨j,hj⟩:=List.getElem?_of_mem he
  obtain⟨hl,h1,_⟩:=h.at hj
  rw[h1]
  exact⟨_,Go.WideMaps.keyOf_string_mk Tryz.underlying9 (h.sz _ (List.getElem_mem hl))⟩
theorem MapG.moved{w w':World}{x:Nat}{gs:List GEn}{es:Array MapEntry}{clock:Nat}(h:MapG w x gs es clock)(hh:w'.heap[x]?=w.heap[x]?):MapG w' x gs es clock:=⟨hh.trans h.heap,h.stm,h.kv,h.sz⟩
def Zwm:Value:=.agg #[.slice none 0 0,.string ByteArray.empty,.int .i64 0,.int .i64 0,.int .i64 0,.int .i64 0,.int .i64 0,.int .i64 0]
theorem MapG.find{w:World}{x:Nat}{gs:List GEn}{es:Array MapEntry}{clock:Nat}(h:MapG w x gs es clock)(k:ByteArray)(hk:k.size<=maxLen) :
  ((∀W:World,(Instr.findKey 9 (.string k) es.toList).run Tryz.prog W=.ok none W)/\(∀g∈gs,g.tx≠k)/\∀e∈es.toList,e.key≠.string k)∨
  ∃j,∃hj:j<gs.length,gs[j].tx=k/\(∀i (hi:i<gs.length),i≠j->gs[i].tx≠k)/\∃e,es.toList[j]?=some e/\e.key=.string k/\e.val=gs[j].val/\∀W:World,(Instr.findKey 9 (.string k) es.toList).run Tryz.prog W=.ok (some (j,e.val)) W:=by
 have K:=Maps.string_keyed (P:=Tryz.prog) (k:=9) Tryz.underlying9
 have hkey:=Go.WideMaps.keyOf_string_mk (P:=Tryz.prog) (k:=9) Tryz.underlying9 hk
 rcases K.find w hkey es.toList h.keys with ⟨h1,h2⟩|⟨j,e,h1,h2,h3⟩
 ·left
  refine⟨fun W=>?_,fun g hg he=>?_,h2⟩
  ·rcases K.find W hkey es.toList h.keys with ⟨k1,_⟩|⟨j,e,k1,k2,k3⟩
   ·exact k1
   ·exact absurd k3 (h2 e (List.mem_of_getElem? k2))
  ·obtain⟨i,hi,rfl⟩:=List.mem_iff_getElem.1 hg
   have hi2:i<es.toList.length:=by rw[Array.length_toList,h.len];exact hi
   obtain⟨_,e1,_⟩:=h.at (List.getElem?_eq_getElem hi2)
   exact h2 _ (List.getElem_mem hi2) (by rw[e1,he])
 ·right
  obtain⟨hj,e1,e2⟩:=h.at h2
  rw[h3]at e1
  have htx:gs[j].tx=k:=(Value.string.inj e1).symm
  have hnd:=h.stm.2.2
  have huniq : ∀ i (hi : i < gs.length), i ≠ j -> gs[i].tx ≠ k := fun i hi hij he => by
    have hi2:i<es.toList.length:=by rw[Array.length_toList,h.len];exact hi
    have hj2:j<es.toList.length:=(List.getElem?_eq_some_iff.1 h2).1
    obtain⟨_,f1,_⟩:=h.at (List.getElem?_eq_getElem hi2)
    have e3:es.toList[j]=e:=Option.some.inj ((List.getElem?_eq_getElem hj2).symm.trans h2)
    rw[List.Nodup,List.pairwise_map,List.pairwise_iff_getElem]at hnd
    rcases Nat.lt_or_ge i j with h4|h4
    · exact hnd i j hi2 hj2 h4 (by rw[f1,he,e3,h3])
    · exact hnd j i hj2 hi2 (by omega) (by rw[f1,he,e3,h3])
  refine⟨j,hj,htx,huniq,e,h2,h3,e2,fun W=>?_⟩
  rcases K.find W hkey es.toList h.keys with ⟨_,k2⟩|⟨j',e',k1,k2,k3⟩
  ·exact absurd h3 (k2 e (List.mem_of_getElem? h2))
  ·obtain⟨hj',f1,f2⟩:=h.at k2
   rw[k3]at f1
   have:j'=j:=by
    refine Classical.byContradiction fun hne=>huniq j' hj' hne ?_
    exact(Value.string.inj f1).symm
   subst this
   rw[h2]at k2
   have k4:=Option.some.inj k2
   subst k4
   exact k1
theorem ZrR{w:World}{x:Nat}{gs:List GEn}{es:Array MapEntry}{clock:Nat}(h:MapG w x gs es clock){k:ByteArray}(hk:k.size<=maxLen)(hf:∀W:World,(Instr.findKey 9 (.string k) es.toList).run Tryz.prog W=.ok none W)(W:World)(hW:W.heap[x]?=w.heap[x]?) :
  (Instr.lookup 337 (.map (some x)) (.string k) false).run Tryz.prog W=.ok Zwm W:=by
 have K:=Maps.string_keyed (P:=Tryz.prog) (k:=9) Tryz.underlying9
 have hkey:=Go.WideMaps.keyOf_string_mk (P:=Tryz.prog) (k:=9) Tryz.underlying9 hk
 simp[Instr.lookup,run_underlying Tryz.underlying337,MapKept.run_getObj_map (hW.trans h.heap),K.check W _ hkey,hf W,Result.andThen]
 rfl
theorem ZrP{w:World}{x:Nat}{gs:List GEn}{es:Array MapEntry}{clock:Nat}(h:MapG w x gs es clock){k:ByteArray}(hk:k.size<=maxLen){j:Nat}{v:Value}(hf:∀W:World,(Instr.findKey 9 (.string k) es.toList).run Tryz.prog W=.ok (some (j,v)) W)(W:World)(hW:W.heap[x]?=w.heap[x]?) :
  (Instr.lookup 337 (.map (some x)) (.string k) false).run Tryz.prog W=.ok v W:=by
 have K:=Maps.string_keyed (P:=Tryz.prog) (k:=9) Tryz.underlying9
 have hkey:=Go.WideMaps.keyOf_string_mk (P:=Tryz.prog) (k:=9) Tryz.underlying9 hk
 simp[Instr.lookup,run_underlying Tryz.underlying337,MapKept.run_getObj_map (hW.trans h.heap),K.check W _ hkey,hf W,Result.andThen]
theorem ZvE{w:World}{x:Nat}{gs:List GEn}{es:Array MapEntry}{clock:Nat}(h:MapG w x gs es clock){k:ByteArray}(hk:k.size<=maxLen)(hf:∀W:World,(Instr.findKey 9 (.string k) es.toList).run Tryz.prog W=.ok none W)(v:Value)(W:World)(hW:W.heap[x]?=w.heap[x]?) :
  (Instr.mapUpdate 337 (.map (some x)) (.string k) v).run Tryz.prog W=.ok () (setBlock W x (.map (es.push ⟨.string k,v,clock⟩) (clock+1))):=by
 have K:=Maps.string_keyed (P:=Tryz.prog) (k:=9) Tryz.underlying9
 have hkey:=Go.WideMaps.keyOf_string_mk (P:=Tryz.prog) (k:=9) Tryz.underlying9 hk
 simp[Instr.mapUpdate,run_underlying Tryz.underlying337,MapKept.run_getObj_map (hW.trans h.heap),K.check W false hkey,hf W,MapKept.run_setObj_map _ (hW.trans h.heap),Result.andThen,setBlock]
theorem ZvC{w:World}{x:Nat}{gs:List GEn}{es:Array MapEntry}{clock:Nat}(h:MapG w x gs es clock){k:ByteArray}(hk:k.size<=maxLen){j:Nat}{e:MapEntry}(he:es.toList[j]?=some e)(hek:e.key=.string k){u:Value}(hf:∀W:World,(Instr.findKey 9 (.string k) es.toList).run Tryz.prog W=.ok (some (j,u)) W)(v:Value)(W:World)(hW:W.heap[x]?=w.heap[x]?) :
  (Instr.mapUpdate 337 (.map (some x)) (.string k) v).run Tryz.prog W=.ok () (setBlock W x (.map (es.modify j fun e=>{ e with key:=.string k,val:=v }) clock)):=by
 have K:=Maps.string_keyed (P:=Tryz.prog) (k:=9) Tryz.underlying9
 have hkey:=Go.WideMaps.keyOf_string_mk (P:=Tryz.prog) (k:=9) Tryz.underlying9 hk
 have hk2:((es[j]?).map (·.key)).getD (.string k)=.string k:=by
  rw[<-Array.getElem?_toList,he];exact hek
 simp[Instr.mapUpdate,run_underlying Tryz.underlying337,MapKept.run_getObj_map (hW.trans h.heap),K.check W false hkey,hf W,hk2,K.stays W hkey,MapKept.run_setObj_map _ (hW.trans h.heap),Result.andThen,setBlock]
end Go.Proofs.YtkodhpilkaihjaaGreatDoor

/- Parts. -/
import Derived.Test.YtkodhpilkaihjaaGreatDoorV08
import Derived.Test.YtkodhpilkaihjaaGreatDoorV20
import Derived.Test.YtkodhpilkaihjaaGreatDoorV06
namespace Go.Proofs.YtkodhpilkaihjaaGreatDoor
open Go.RowKit LS
theorem flatC_get (l : List (ByteArray × ByteArray × Bool)) (j : Nat) : (flatC l)[j * 3]? = l[j]?.map (fun c => .string c.1) ∧ (flatC l)[j * 3 + 1]? = l[j]?.map (fun c => .string c.2.1) ∧ (flatC l)[j * 3 + 2]? = l[j]?.map (fun c => .bool c.2.2) := by
  induction l generalizing j with
  | nil=>simp[flatC]
  | cons r l ih=>
    obtain⟨x,y,z⟩:=r
    cases j with
    | zero=>simp[flatC]
    | succ j=>
      obtain⟨h1,h2,h3⟩:=ih j
      refine⟨?_,?_,?_⟩
      · rw[show(j+1)*3=j*3+1+1+1 by omega];simpa [flatC] using h1
      · rw[show(j+1)*3+1=j*3+1+1+1+1 by omega];simpa [flatC] using h2
      · rw[show(j+1)*3+2=j*3+2+1+1+1 by omega];simpa [flatC] using h3
def condsTo(qs:List (ByteArray×ByteArray×Bool))(k:Nat):List UInt8:=commas ((qs.take k).map fun c=>condS (blC c))
theorem condsTo_succ(qs:List (ByteArray×ByteArray×Bool))(k:Nat)(h:k<qs.length):condsTo qs (k+1)=(if k=0 then [] else condsTo qs k++[44])++condS (blC qs[k]):=by
 unfold condsTo
 rw[List.take_succ_eq_append_getElem h,List.map_append,List.map_singleton,commas_snoc]
 by_cases h0:k=0
 ·subst h0;rfl
 ·rw[if_neg h0,if_neg]
  rw[List.isEmpty_iff]
  intro e
  have:=congrArg List.length e
  rw[List.length_map,List.length_take,List.length_nil]at this
  omega
theorem cw_take(l:List (List UInt8×List UInt8×Bool))(k:Nat):cw (l.take k)≤cw l:=by
 induction l generalizing k with
 | nil=>simp
 | cons a l ih=>
  cases k with
  | zero=>simp[cw]
  | succ k=>have:=ih k;simp[cw];omega
theorem condsTo_len(qs:List (ByteArray×ByteArray×Bool))(k:Nat):(condsTo qs k).length≤cw (qs.map blC):=by
 unfold condsTo
 have h1:=commas_len ((qs.take k).map fun c=>condS (blC c))
 have h2:=nw_conds ((qs.take k).map blC)
 have h3:=cw_take (qs.map blC) k
 rw[List.map_map]at h2
 rw[←List.map_take]at h3
 have e:((qs.take k).map fun c=>condS (blC c))=(qs.take k).map (condS ∘ blC):=rfl
 rw[e]at h1 ⊢
 omega
theorem cw_get(l:List (List UInt8×List UInt8×Bool))(k:Nat)(h:k<l.length):l[k].1.length+l[k].2.1.length≤cw l:=by
 induction l generalizing k with
 | nil=>simp at h
 | cons a l ih=>
  cases k with
  | zero=>simp[cw];omega
  | succ k=>have:=ih k (by simpa using h);simp[cw];omega
set_option maxRecDepth 100000 in
set_option maxHeartbeats 2000000 in
theorem selText_any(w:World)(p:PV)(nd:Nd)(hnm:bl p.nm=nd.name)(hc:CondsAre w 0 p nd.conds)(hsz:nd.name.length+cw nd.conds≤200000) :
  Calls Tryz.prog 105 #[.agg #[.int .i64 p.k,.int .i64 p.n,.int .i64 p.op,.string p.nm,.slice p.ca p.cn p.cc,.slice p.ba p.bn p.bc,.int .i64 p.a,.int .i64 p.b]] w fun e w'=>∃r:ByteArray,e=.returned (.string r)∧r.size≤300000∧Hid (bl r=selS nd)∧Below w.heap.size w w':=by
 obtain⟨qs,hown,hqs⟩:=hc
 obtain⟨av,cp,hv⟩:=own_shape hown
 injection hv with hv1 hv2 hv3
 have hnl:p.nm.size=nd.name.length:=size_of_bl hnm
 have hcw:cw (qs.map blC)≤200000:=by rw[hqs];omega
 have HC : Hid (∀ k (h : k < qs.length), (qs[k]).1.size + (qs[k]).2.1.size ≤ 200000) := hid (fun k h => by
   have:=cw_get (qs.map blC) k (by simpa using h)
   simp only[List.getElem_map,blC,bl_length]at this
   omega)
 have HL:Hid (∀k,(condsTo qs k).length≤200000):=hid (fun k=>Nat.le_trans (condsTo_len qs k) hcw)
 have HNM:Hid (bl p.nm=nd.name∧qs.map blC=nd.conds):=⟨hnm,hqs⟩
 have HO:Hid (w.ownsRow 0 372 3 (.slice p.ca qs.length p.cc) qs.length (flatC qs)):=hid (by have:=hown;rw[hv2]at this;exact this)
 have hq6:qs.length≤200000:=by
  have : ∀ l : List (List UInt8 × List UInt8 × Bool), l.length ≤ cw l := fun l => by
    induction l with
    | nil=>exact Nat.le_refl _
    | cons a l ih=>simp[cw];omega
  have:=this (qs.map blC)
  rw[List.length_map]at this
  omega
 clear hown hv3 hqs hcw hnm
 obtain⟨pk,pn,pop,pnm,pca,pcn,pcc,pba,pbn,pbc,pa,pb⟩:=p
 simp only at hv1 hv2 hnl HNM HO
 subst hv2
 clear hv1
 by_cases h0:qs.length=0
 ·have HF:Hid (bl pnm=selS nd):=hid (by
   unfold selS
   rw[←HNM.out.2,List.length_eq_zero_iff.1 h0]
   exact HNM.out.1)
  have hs:pnm.size≤300000:=by omega
  go_enter Tryz.func105,Tryz.ntmps105
  go_wp2
  go_ret
  exact⟨_,rfl,hs,HF,(Below.refl _ _).alloc (Nat.le_refl _) _⟩
 ·have hg:∃g,pca=some ⟨g,0,none⟩:=by
   obtain⟨g,cp',h⟩:=own_some HO.out (by omega)
   injection h with h1;exact⟨g,h1⟩
  obtain⟨g,rfl⟩:=hg
  have hgl:=own_lt HO.out
  have hne:((qs.length:Int) == 0)=false:=by rw[beq_eq_false_iff_ne];omega
  go_enter Tryz.func105,Tryz.ntmps105
  go_wp2
  go_loopw [3,4] (fun sv iv wr=>∃(k:Nat) (r:ByteArray),k≤qs.length∧iv=.int .i64 k∧sv=.string r∧Hid (bl r=condsTo qs k)∧Hid (Below (w.heap.size+1) (w.alloc (.cells #[.int .i64 pk,.int .i64 pn,.int .i64 pop,.string pnm,.slice (some ⟨g,0,none⟩) qs.length pcc,.slice pba pbn pbc,.int .i64 pa,.int .i64 pb] 92)) wr)) (fun _ iv _=>qs.length - (intOf iv).toNat)
  case atStart=>exact⟨0,⟨#[]⟩,Nat.zero_le _,rfl,rfl,rfl,Below.refl _ _⟩
  case round=>
   obtain⟨k,r,hk,rfl,rfl,HR,HB⟩:=hrel
   have hbx:PAt wr w.heap.size ⟨pk,pn,pop,pnm,some ⟨g,0,none⟩,qs.length,pcc,pba,pbn,pbc,pa,pb⟩:=(HB.out.block _ (by omega)).trans (Go.Deep.blk_alloc_new _ _)
   have hwr:w.heap.size+1≤wr.heap.size:=hbx.lt
   obtain⟨k0,k1,k2,k3,k4,k5,k6,k7⟩:=hbx.all
   have hrs:r.size≤200000:=by rw[size_of_bl HR.out];exact HL.out k
   by_cases hlt:k<qs.length
   ·obtain⟨f1,f2,f3⟩:=flatC_get qs k
    rw[List.getElem?_eq_getElem hlt]at f1 f2 f3
    have hcell:∀j,wr.cell? ⟨g,j,none⟩=w.cell? ⟨g,j,none⟩:=fun j=>((HB.out.cell (p:=⟨g,j,none⟩) (by show g<w.heap.size+1;omega))).trans (World.cell?_alloc_lt _ _ _ hgl)
    have d1:wr.cell? ⟨g,k*3,none⟩=some (.string qs[k].1):=(hcell _).trans (own_cell HO.out _ _ f1)
    have d2:wr.cell? ⟨g,k*3+1,none⟩=some (.string qs[k].2.1):=(hcell _).trans (own_cell HO.out _ _ f2)
    have d3:wr.cell? ⟨g,k*3+2,none⟩=some (.bool qs[k].2.2):=(hcell _).trans (own_cell HO.out _ _ f3)
    have hz:=HC.out k hlt
    have HT:Hid (condsTo qs (k+1)=(if k=0 then [] else condsTo qs k++[44])++condS (blC qs[k])):=condsTo_succ qs k hlt
    generalize qs[k]=c at *
    obtain⟨x,y,v⟩:=c
    simp only at d1 d2 d3 hz
    clear f1 f2 f3 hcell hbx
    have add:∀(a b:ByteArray),a.size+b.size≤2000000→∀W,(Op.stringOp .add a b).run Tryz.prog W=.ok (.string (a++b)) W:=fun a b h W=>run_string_add_sum W a b (by omega)
    have HB2:Hid (∀o,Below (w.heap.size+1) (w.alloc (.cells #[.int .i64 pk,.int .i64 pn,.int .i64 pop,.string pnm,.slice (some ⟨g,0,none⟩) qs.length pcc,.slice pba pbn pbc,.int .i64 pa,.int .i64 pb] 92)) (wr.alloc o)):=fun o=>HB.out.alloc hwr o
    by_cases hk0:0<(k:Int)
    ·cases v
     ·have HF:Hid (bl (((((r++⟨#[44]⟩)++x)++⟨#[61,34]⟩)++y)++⟨#[34]⟩)=condsTo qs (k+1)):=hid (by
       rw[HT.out,if_neg (by omega),bl_app,bl_app,bl_app,bl_app,bl_app,HR.out]
       simp[condS,blC,condsTo,bl])
      have a0:=add r ⟨#[44]⟩ (by show r.size+1≤_;omega)
      have z0:(r++⟨#[44]⟩).size=r.size+1:=(by rw[ByteArray.size_append];rfl)
      have z1:((r++⟨#[44]⟩)++x).size=r.size+1+x.size:=by rw[ByteArray.size_append,z0]
      have z2:(((r++⟨#[44]⟩)++x)++⟨#[61,34]⟩).size=r.size+1+x.size+2:=by rw[ByteArray.size_append,z1];rfl
      have z3:((((r++⟨#[44]⟩)++x)++⟨#[61,34]⟩)++y).size=r.size+1+x.size+2+y.size:=by rw[ByteArray.size_append,z2]
      have a1:=add (r++⟨#[44]⟩) x (by omega)
      have a2:=add ((r++⟨#[44]⟩)++x) ⟨#[61,34]⟩ (by rw[z1];show _+2≤_;omega)
      have a3:=add (((r++⟨#[44]⟩)++x)++⟨#[61,34]⟩) y (by omega)
      have a4:=add ((((r++⟨#[44]⟩)++x)++⟨#[61,34]⟩)++y) ⟨#[34]⟩ (by rw[z3];show _+1≤_;omega)
      clear z0 z1 z2 z3 HT
      go_wp2
      go_roundw
      case rel=>exact⟨k+1,_,by omega,by go_num,rfl,HF,HB2.out _⟩
      case measure=>simp[intOf];omega
     ·have HF:Hid (bl (((((r++⟨#[44]⟩)++x)++⟨#[33,61,34]⟩)++y)++⟨#[34]⟩)=condsTo qs (k+1)):=hid (by
       rw[HT.out,if_neg (by omega),bl_app,bl_app,bl_app,bl_app,bl_app,HR.out]
       simp[condS,blC,condsTo,bl])
      have a0:=add r ⟨#[44]⟩ (by show r.size+1≤_;omega)
      have z0:(r++⟨#[44]⟩).size=r.size+1:=(by rw[ByteArray.size_append];rfl)
      have z1:((r++⟨#[44]⟩)++x).size=r.size+1+x.size:=by rw[ByteArray.size_append,z0]
      have z2:(((r++⟨#[44]⟩)++x)++⟨#[33,61,34]⟩).size=r.size+1+x.size+3:=by rw[ByteArray.size_append,z1];rfl
      have z3:((((r++⟨#[44]⟩)++x)++⟨#[33,61,34]⟩)++y).size=r.size+1+x.size+3+y.size:=by rw[ByteArray.size_append,z2]
      have a1:=add (r++⟨#[44]⟩) x (by omega)
      have a2:=add ((r++⟨#[44]⟩)++x) ⟨#[33,61,34]⟩ (by rw[z1];show _+3≤_;omega)
      have a3:=add (((r++⟨#[44]⟩)++x)++⟨#[33,61,34]⟩) y (by omega)
      have a4:=add ((((r++⟨#[44]⟩)++x)++⟨#[33,61,34]⟩)++y) ⟨#[34]⟩ (by rw[z3];show _+1≤_;omega)
      clear z0 z1 z2 z3 HT
      go_wp2
      go_roundw
      case rel=>exact⟨k+1,_,by omega,by go_num,rfl,HF,HB2.out _⟩
      case measure=>simp[intOf];omega
    ·cases v
     ·have HF:Hid (bl ((((r++x)++⟨#[61,34]⟩)++y)++⟨#[34]⟩)=condsTo qs (k+1)):=hid (by
       have hk1:k=0:=by omega
       rw[HT.out,if_pos hk1,bl_app,bl_app,bl_app,bl_app,HR.out,hk1]
       simp[condS,blC,condsTo,commas,bl])
      have z0:r.size=r.size:=rfl
      have z1:(r++x).size=r.size+x.size:=by rw[ByteArray.size_append,z0]
      have z2:((r++x)++⟨#[61,34]⟩).size=r.size+x.size+2:=by rw[ByteArray.size_append,z1];rfl
      have z3:(((r++x)++⟨#[61,34]⟩)++y).size=r.size+x.size+2+y.size:=by rw[ByteArray.size_append,z2]
      have a1:=add r x (by omega)
      have a2:=add (r++x) ⟨#[61,34]⟩ (by rw[z1];show _+2≤_;omega)
      have a3:=add ((r++x)++⟨#[61,34]⟩) y (by omega)
      have a4:=add (((r++x)++⟨#[61,34]⟩)++y) ⟨#[34]⟩ (by rw[z3];show _+1≤_;omega)
      clear z0 z1 z2 z3 HT
      go_wp2
      go_roundw
      case rel=>exact⟨k+1,_,by omega,by go_num,rfl,HF,HB2.out _⟩
      case measure=>simp[intOf];omega
     ·have HF:Hid (bl ((((r++x)++⟨#[33,61,34]⟩)++y)++⟨#[34]⟩)=condsTo qs (k+1)):=hid (by
       have hk1:k=0:=by omega
       rw[HT.out,if_pos hk1,bl_app,bl_app,bl_app,bl_app,HR.out,hk1]
       simp[condS,blC,condsTo,commas,bl])
      have z0:r.size=r.size:=rfl
      have z1:(r++x).size=r.size+x.size:=by rw[ByteArray.size_append,z0]
      have z2:((r++x)++⟨#[33,61,34]⟩).size=r.size+x.size+3:=by rw[ByteArray.size_append,z1];rfl
      have z3:(((r++x)++⟨#[33,61,34]⟩)++y).size=r.size+x.size+3+y.size:=by rw[ByteArray.size_append,z2]
      have a1:=add r x (by omega)
      have a2:=add (r++x) ⟨#[33,61,34]⟩ (by rw[z1];show _+3≤_;omega)
      have a3:=add ((r++x)++⟨#[33,61,34]⟩) y (by omega)
      have a4:=add (((r++x)++⟨#[33,61,34]⟩)++y) ⟨#[34]⟩ (by rw[z3];show _+1≤_;omega)
      clear z0 z1 z2 z3 HT
      go_wp2
      go_roundw
      case rel=>exact⟨k+1,_,by omega,by go_num,rfl,HF,HB2.out _⟩
      case measure=>simp[intOf];omega
   ·obtain rfl:k=qs.length:=by omega
    have HF:Hid (bl (((pnm++⟨#[123]⟩)++r)++⟨#[125]⟩)=selS nd):=hid (by
     unfold selS
     rw[if_neg (by rw[←HNM.out.2];intro e;have:=congrArg List.length e;rw[List.length_map,List.length_nil]at this;omega),bl_app,bl_app,bl_app,HR.out,HNM.out.1,←HNM.out.2]
     unfold condsTo
     rw[List.take_length,List.map_map]
     rfl)
    have z1:(pnm++⟨#[123]⟩).size=pnm.size+1:=by rw[ByteArray.size_append];rfl
    have z2:((pnm++⟨#[123]⟩)++r).size=pnm.size+1+r.size:=by rw[ByteArray.size_append,z1]
    have z3:(((pnm++⟨#[123]⟩)++r)++⟨#[125]⟩).size=pnm.size+1+r.size+1:=by rw[ByteArray.size_append,z2];rfl
    have HZ:Hid ((((pnm++⟨#[123]⟩)++r)++⟨#[125]⟩).size≤300000):=hid (by
     have h2:=selS_len nd
     rw[←HF.out,bl_length]at h2
     omega)
    have a1:∀W,(Op.stringOp .add pnm ⟨#[123]⟩).run Tryz.prog W=.ok (.string (pnm++⟨#[123]⟩)) W:=fun W=>run_string_add_sum W _ _ (by show pnm.size+1≤_;omega)
    have a2:∀W,(Op.stringOp .add (pnm++⟨#[123]⟩) r).run Tryz.prog W=.ok (.string ((pnm++⟨#[123]⟩)++r)) W:=fun W=>run_string_add_sum W _ _ (by omega)
    have a3:∀W,(Op.stringOp .add ((pnm++⟨#[123]⟩)++r) ⟨#[125]⟩).run Tryz.prog W=.ok (.string (((pnm++⟨#[123]⟩)++r)++⟨#[125]⟩)) W:=fun W=>run_string_add_sum W _ _ (by rw[z2];show _+1≤_;omega)
    have HBw:Hid (Below w.heap.size w wr):=((Below.refl w.heap.size w).alloc (Nat.le_refl _) _).trans (HB.out.mono (by omega))
    clear z1 z2 z3
    go_wp2
    go_ret
    exact⟨_,rfl,HZ.out,HF,HBw.out⟩
end Go.Proofs.YtkodhpilkaihjaaGreatDoor

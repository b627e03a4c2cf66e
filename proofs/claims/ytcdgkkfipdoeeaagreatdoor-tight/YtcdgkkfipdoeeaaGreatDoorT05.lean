/- Parts. -/
import Derived.Test.YtcdgkkfipdoeeaaGreatDoorT04
import Derived.Deep.RegionHeld3
import Derived.Test.YtcdgkkfipdoeeaaGreatDoorT03
import Derived.Deep.LoopGhost
import Derived.Deep.QuietTactic
import Derived.BigQuiet
import Derived.Test.YtcdgkkfipdoeeaaGreatDoorT00
import Derived.LaidEql
import Derived.Stop.Asserts
import Derived.RowKitTokens
import Derived.Maps.OwnSet
import Derived.Maps.Ext
import Derived.Maps.RangeWalk
set_option maxHeartbeats 4000000
namespace Go.Proofs.YtcdgkkfipdoeeaaGreatDoor
open Go.RowKit LS
section
variable {P:Program} {ops:Array Oper} {Q:Exit->Act->World->Prop} {md:Region.Mode} {S:World->Prop} {k:Nat}
def ZcZ(P:Program)(md:Region.Mode)(ops:Array Oper)(Q:Exit->Act->World->Prop)(S:World->Prop)(k:Nat):Nat->Array Bool->Act->World->Prop
 | 0,ls,a,w=>Region.ready md ops ls=[]/\Q .normal a w
 | f + 1, ls, a, w => (Region.ready md ops ls = [] -> Q .normal a w) /\ ∀ i ∈ Region.ready md ops ls,
     wpOp P ops Q i (fun a' w'=>((ls.setIfInBounds i true).getD k true=false->S w')/\ZcZ P md ops Q S k f (ls.setIfInBounds i true) a' w') a w
theorem ZcZ.any:∀(f:Nat) (ls:Array Bool) (a:Act) (w:World),ZcZ P md ops Q S k f ls a w->wpAny P md ops Q f ls a w
 | 0,_,_,_,h=>h
 | f+1,_,_,_,h=>⟨h.1,fun i hi=>wpOp_mono (fun _ _ h'=>ZcZ.any f _ _ _ h'.2) (h.2 i hi)⟩
def Ze1(md:Region.Mode)(ops:Array Oper)(ls:Array Bool):Bool:=
 (List.range ops.size).all fun j=>!ls.getD j true || ((ops[j]?).map (·.after.all fun e=>!Region.binds md e || ls.getD e.on false)).getD false
def Zgb(md:Region.Mode)(ops:Array Oper)(i:Nat):Nat->Nat->Bool
 | 0,_=>false
 | n+1,j=>((ops[j]?).map (·.after.any fun e=>Region.binds md e && (e.on == i || Zgb md ops i n e.on))).getD false
theorem ZpA{ls:Array Bool} : Ze1 md ops ls=true ↔ ∀j o,ops[j]?=some o->ls.getD j true=true->∀e∈o.after,Region.binds md e=true->ls.getD e.on false=true:=by
 unfold Ze1
 rw[List.all_eq_true]
 constructor
 ·intro h j o ho hj e he hb
  have h1:=h j (List.mem_range.2 (Array.getElem?_eq_some_iff.1 ho).1)
  rw[hj,ho]at h1
  simp only[Bool.not_true,Bool.false_or,Option.map_some,Option.getD_some,Array.all_eq_true']at h1
  have h2:=h1 e he
  rw[hb]at h2
  simpa using h2
 ·intro h j hj
  rw[List.mem_range]at hj
  have ho:ops[j]?=some ops[j]:=Array.getElem?_eq_getElem hj
  cases hl:ls.getD j true with
  | false=>rfl
  | true=>
   rw[ho]
   simp only[Bool.not_true,Bool.false_or,Option.map_some,Option.getD_some,Array.all_eq_true']
   intro e he
   cases hb:Region.binds md e with
   | false=>rfl
   | true=>simpa using h j _ ho hl e he hb
theorem ZxF{ls:Array Bool}{j:Nat}(h:Ze1 md ops ls=true)(hj:j∈Region.ready md ops ls):Ze1 md ops (ls.setIfInBounds j true)=true:=by
 rw[ZpA]at h ⊢
 intro i o ho hi e he hb
 obtain⟨_,oj,hoj,hall⟩:=mem_ready.1 hj
 by_cases hij:j=i
 ·subst hij
  rw[hoj]at ho
  injection ho with ho
  subst ho
  exact getD_set_true (hall e he hb)
 ·rw[getD_set_ne true hij]at hi
  exact getD_set_true (h i o ho hi e he hb)
theorem Zqc{ls:Array Bool}{i:Nat}(h:Ze1 md ops ls=true)(hi:ls.getD i true=false):∀(n j:Nat),Zgb md ops i n j=true->ls.getD j true=false
 | 0,_,hw=>by cases hw
 | n + 1, j, hw => by
   cases hl:ls.getD j true with
   | false=>rfl
   | true=>
     unfold Zgb at hw
     cases ho:ops[j]? with
     | none=>rw[ho]at hw;cases hw
     | some o=>
       rw[ho]at hw
       simp only[Option.map_some,Option.getD_some,Array.any_eq_true',Bool.and_eq_true,Bool.or_eq_true,beq_iff_eq]at hw
       obtain⟨e,he,hb,hor⟩:=hw
       have h1:=ZpA.1 h j o ho hl e he hb
       have h2:ls.getD e.on true=false:=by
         rcases hor with heq|hr
         · rw[heq];exact hi
         · exact Zqc h hi n _ hr
       exfalso
       rcases Nat.lt_or_ge e.on ls.size with h'|h'
       · simp[h']at h1 h2;rw[h2]at h1;cases h1
       · simp[h']at h1
theorem Zqv{i n:Nat}{oi:Oper}{v:Value}(hi:ops[i]?=some oi)(hsel:∀(j:Nat) (o:Oper) cs b,ops[j]?=some o->o.op≠.select cs b)
  (hQ:∀c a w,Q (.panic c) (a.put oi.dst v) w->Q (.panic c) a w) (hw:Zgb md ops i n k=true) (hik:i≠k) :
  ∀(f:Nat) (ls:Array Bool) (a:Act) (w:World),Ze1 md ops ls=true->
   (∀j oj,ops[j]?=some oj->j≠i->ls.getD j true=false->(∀e∈oj.after,Region.binds md e=true->e.on≠i)->oi.apart ops oj=true)->
   i∈Region.ready md ops ls->YieldsIf P ops S oi v a->S w->
   ZcZ P md ops Q S k f (ls.setIfInBounds i true) (a.put oi.dst v) w->ZcZ P md ops Q S k (f+1) ls a w
 | 0, ls, a, w, hsh, hfree, hr, hy, hS, H => by
   refine⟨fun h=>(by rw[h]at hr;cases hr),fun j hj=>?_⟩
   by_cases hji:j=i
   · subst hji;exact hy.wpOp hi hS ⟨fun _=>hS,H⟩
   · have h1:=ready_mono hj hji
     rw[H.1]at h1
     cases h1
 | f + 1, ls, a, w, hsh, hfree, hr, hy, hS, H => by
   refine⟨fun h=>(by rw[h]at hr;cases hr),fun j hj=>?_⟩
   by_cases hji:j=i
   · subst hji;exact hy.wpOp hi hS ⟨fun _=>hS,H⟩
   · have h1:=H.2 j (ready_mono hj hji)
     obtain⟨hjun,oj,hoj,hall⟩:=mem_ready.1 hj
     have hiun:=(mem_ready.1 hr).1
     have hnot : ∀ e ∈ oj.after, Region.binds md e = true -> e.on ≠ i := fun e he hb heq => by
       have h2:=hall e he hb
       rw[heq]at h2
       rcases Nat.lt_or_ge i ls.size with h'|h'
       · simp[h']at hiun h2;rw[hiun]at h2;cases h2
       · simp[h']at h2
     have hsh':=ZxF hsh hj
     have hiun':(ls.setIfInBounds j true).getD i true=false:=by rw[getD_set_ne true hji];exact hiun
     have hkun:(ls.setIfInBounds j true).getD k true=false:=Zqc hsh' hiun' n k hw
     have h2:=wpOp_putIf hoj (hfree j oj hoj hji hjun hnot) (fun cs b=>hsel i oi cs b hi) (fun cs b=>hsel j oj cs b hoj) hQ hy h1
     refine wpOp_mono (fun a' w' h3=>?_) h2
     have hS':S w':=h3.2.1 (by rw[Array.setIfInBounds_comm _ _ (Ne.symm hji),getD_set_ne true hik];exact hkun)
     refine⟨fun _=>hS',Zqv hi hsel hQ hw hik f (ls.setIfInBounds j true) a' w' hsh' (fun m om hm hmi hun hno=>hfree m om hm hmi ?_ hno) (ready_mono hr (Ne.symm hji)) h3.1 hS' ?_⟩
     · by_cases hjm:j=m
       · subst hjm;exact hjun
       · rw[getD_set_ne true hjm]at hun;exact hun
     · rw[Array.setIfInBounds_comm _ _ hji]
       exact h3.2.2
theorem Zyg{i d:Nat}{oi:Oper}{v:Value}{f:Nat}{ls:Array Bool}{a:Act}{w:World}(hi:ops[i]?=some oi)(hd:oi.dst=some d)(hq:(Region.noSelect ops && Region.free md ops ls i && (Region.ready md ops ls).contains i && Zgb md ops i ops.size k && Ze1 md ops ls && i != k)=true)
  (hQ:∀c a w,Q (.panic c) (a.put oi.dst v) w->Q (.panic c) a w) (hy:YieldsIf P ops S oi v a) (hS:S w)
  (h:ZcZ P md ops Q S k f (ls.setIfInBounds i true) { a with tmps:=a.tmps.setIfInBounds d v } w):ZcZ P md ops Q S k (f+1) ls a w:=by
 simp only[Bool.and_eq_true,bne_iff_ne]at hq
 obtain⟨⟨⟨⟨⟨h1,h2⟩,h3⟩,h4⟩,h5⟩,h6⟩:=hq
 exact Zqv hi (Region.noSelect_spec h1) hQ h4 h6 f ls a w h5 (Region.free_spec hi h2) (by simpa using h3) hy hS (by rw[hd];exact h)
theorem Zbr{i:Nat}{o:Oper}{f:Nat}{ls:Array Bool}{a:Act}{w:World}(hr:Region.ready md ops ls=[i])(ho:ops[i]?=some o)
  (h:∀K':Act->World->Prop,Shut (∀a w,S w->(S w->ZcZ P md ops Q S k f (ls.setIfInBounds i true) a w)->K' a w)->if Region.wanted o (yielded ops a.tmps)=true then Oper.wp P o a w K' Q else K' (a.put o.dst undef) w):ZcZ P md ops Q S k (f+1) ls a w:=by
 refine⟨fun h0=>(by rw[hr]at h0;cases h0),fun j hj=>?_⟩
 rw[hr,List.mem_singleton]at hj
 subst hj
 exact wpOp_step ho (fun K' hK=>h K' (fun a w hS hW=>hK a w ⟨fun _=>hS,hW hS⟩))
theorem Zcq{o:Oper}{f:Nat}{ls:Array Bool}{a:Act}{w:World}(hr:Region.ready md ops ls=[k])(hr2:Region.ready md ops (ls.setIfInBounds k true)=[])(ho:ops[k]?=some o)(hk:(ls.setIfInBounds k true).getD k true=true)
  (h:∀K':Act->World->Prop,Shut (∀a w,Q .normal a w->K' a w)->if Region.wanted o (yielded ops a.tmps)=true then Oper.wp P o a w K' Q else K' (a.put o.dst undef) w):ZcZ P md ops Q S k (f+1) ls a w:=by
 refine⟨fun h0=>(by rw[hr]at h0;cases h0),fun j hj=>?_⟩
 rw[hr,List.mem_singleton]at hj
 subst hj
 refine wpOp_step ho (fun K' hK=>h K' (fun a w hq=>hK a w ⟨fun h0=>(by rw[hk]at h0;cases h0),?_⟩))
 cases f with
 | zero=>exact⟨hr2,hq⟩
 | succ f=>exact⟨fun _=>hq,fun j hj=>by rw[hr2]at hj;cases hj⟩
theorem Zcm{id:Nat}{a:Act}{w:World}(k:Nat)(S:World->Prop)(hm:P.follows .mixedOrders=true)(hS:S w.drew)(h:S w.drew->ZcZ P .any ops Q S k ops.size (Array.replicate ops.size false) a w.drew):(Code.region id ops true).wp P Q a w:=
 wp_region_any hm (ZcZ.any _ _ _ _ (h hS))
end
end Go.Proofs.YtcdgkkfipdoeeaaGreatDoor
namespace Go.Proofs.YtcdgkkfipdoeeaaGreatDoor
open Go.RowKit LS
theorem Zu6(a b:Int)(a1 : -1000000000<=a)(a2:a<=1000000000)(b1 : -1000000000<=b)(b2:b<=1000000000):(a*b).natAbs<=1000000000000000000:=by
 rw[Int.natAbs_mul]
 have h1:a.natAbs<=1000000000:=by omega
 have h2:b.natAbs<=1000000000:=by omega
 exact Nat.mul_le_mul h1 h2
theorem Zzj(a b:Int):twoV 0 a b=cutV (a+b):=by simp[twoV]
theorem Zzk(a b:Int):twoV 1 a b=cutV (a - b):=by simp[twoV]
theorem Zzl(a b:Int):twoV 2 a b=cutV (a*b):=by simp[twoV]
theorem Zzn(a:Int):twoV 3 a 0=0:=by simp[twoV]
theorem Zzm(a b:Int)(h:b≠0):twoV 3 a b=a.tdiv b:=by simp[twoV,h]
def vOk(n:Int):Prop:=-1000000000<=n/\n<=1000000000
theorem ZuZ(m:Int)(l:List Int)(x:Int):maxL m (l++[x])=if maxL m l<x then x else maxL m l:=by
 induction l generalizing m with
 | nil=>rfl
 | cons a l ih=>exact ih _
theorem Zu4(m:Int)(l:List Int)(x:Int):minL m (l++[x])=if x<minL m l then x else minL m l:=by
 induction l generalizing m with
 | nil=>rfl
 | cons a l ih=>exact ih _
theorem ZgN(n:Int):vOk (cutV n):=by unfold vOk cutV;split <;> (try split) <;> omega
theorem Zhn(op:Nat)(a b:Int)(ha:vOk a):vOk (twoV op a b):=by
 unfold twoV
 split
 ·exact ZgN _
 split
 ·exact ZgN _
 split
 ·exact ZgN _
 split
 ·unfold vOk;omega
 ·unfold vOk at *
  have h1:(a.tdiv b).natAbs<=a.natAbs:=by rw[Int.natAbs_tdiv];exact Nat.div_le_self _ _
  omega
def Zf8(l s:Int):Nat->Int->List Int->Option (List Int)
 | 0,_,_=>none
 | n+1,t,acc=>if t<=l then (if acc.length=50 then none else Zf8 l s n (t+s) (acc++[t]))else some acc
def badT(f l s:Int):Prop:=f < -1000000∨1000000<f∨l < -1000000∨1000000<l∨s<1∨1000000<s∨l<f
instance (f l s:Int):Decidable (badT f l s):=by unfold badT;infer_instance
def ZeG(f l s:Int):Option (List Int):=if badT f l s then none else Zf8 l s 60 f []
def cnt(l s t:Int):Nat:=if t<=l then ((l - t) / s).toNat+1 else 0
theorem Zmp(l s t:Int)(hs:1<=s)(h:t<=l):cnt l s t=cnt l s (t+s)+1:=by
 unfold cnt
 rw[if_pos h]
 by_cases h2:t+s<=l
 ·rw[if_pos h2]
  have e:(l - t) / s=(l - (t+s)) / s+1:=by
   rw[show l - t=(l - (t+s))+1*s by omega,Int.add_mul_ediv_right _ _ (by omega)]
  have hn:0<=(l - (t+s)) / s:=Int.ediv_nonneg (by omega) (by omega)
  rw[e]
  omega
 ·rw[if_neg h2]
  have e:(l - t) / s=0:=Int.ediv_eq_zero_of_lt (by omega) (by omega)
  rw[e]
  rfl
theorem ZpV (l s : Int) (hs : 1 <= s) : ∀ (n : Nat) (t : Int) (acc : List Int), acc.length + cnt l s t <= 50 -> cnt l s t < n -> Zf8 l s n t acc = some (acc ++ (List.range (cnt l s t)).map fun (i : Nat) => t + (i : Int) * s)
  | 0,_,_,_,h=>absurd h (Nat.not_lt_zero _)
  | n + 1, t, acc, h1, h2 => by
    rw[Zf8]
    by_cases h:t<=l
    · have hc:=Zmp l s t hs h
      rw[if_pos h,if_neg (by omega),ZpV l s hs n (t+s) (acc++[t]) (by rw[List.length_append,List.length_singleton];omega) (by omega),hc,List.range_succ_eq_map,List.map_cons,List.map_map,List.append_assoc]
      congr 2
      rw[List.singleton_append]
      congr 1
      · simp
      · refine List.map_congr_left (fun i _=>?_)
        simp only[Function.comp]
        rw[show((Nat.succ i:Nat):Int)=(i:Int)+1 from rfl,Int.add_mul]
        omega
    · have hc:cnt l s t=0:=by unfold cnt;rw[if_neg h]
      rw[if_neg h,hc];simp
theorem ZpU(l s:Int)(hs:1<=s):∀(n:Nat) (t:Int) (acc:List Int),50<acc.length+cnt l s t->acc.length<=50->50 - acc.length<n->Zf8 l s n t acc=none
 | 0,_,_,_,_,h=>absurd h (Nat.not_lt_zero _)
 | n + 1, t, acc, h1, h2, h3 => by
   rw[Zf8]
   by_cases h:t<=l
   · have hc:=Zmp l s t hs h
     rw[if_pos h]
     by_cases ha:acc.length=50
     · rw[if_pos ha]
     · rw[if_neg ha]
       exact ZpU l s hs n (t+s) (acc++[t]) (by rw[List.length_append,List.length_singleton];omega) (by rw[List.length_append,List.length_singleton];omega) (by rw[List.length_append,List.length_singleton];omega)
   · have hc:cnt l s t=0:=by unfold cnt;rw[if_neg h]
     omega
theorem Zyx {f l s : Int} (h : ¬ badT f l s) : ZeG f l s = if 50 < cnt l s f then none else some ((List.range (cnt l s f)).map fun (i : Nat) => f + (i : Int) * s) := by
  have hs:1<=s:=by unfold badT at h;omega
  unfold ZeG
  rw[if_neg h]
  split
  · rename_i h1
    exact ZpU l s hs 60 f [] (by simpa using h1) (by simp) (by simp)
  · rename_i h1
    rw[ZpV l s hs 60 f [] (by simp;omega) (by omega)]
    rfl
theorem Zho (n : Int) (w : World) : Calls Tryz.prog 229 #[.int .i64 n] w fun e w' => e = .returned (.int .i64 (cutV n)) /\ w' = w := by
  rcases(by unfold cutV;split <;> (try split) <;> omega:(1000000000<n/\cutV n=1000000000)∨(n < -1000000000/\cutV n=-1000000000)∨(-1000000000<=n/\n<=1000000000/\cutV n=n))with ⟨h,e⟩|⟨h,e⟩|⟨h1,h2,e⟩
  all_goals
    rw[e]
    have HE:=hid e
    clear e
    go_enter Tryz.func229,Tryz.ntmps229
    go_wp2
    all_goals first|omega|(go_ret;exact⟨rfl,rfl⟩)|(go_ret;exact⟨Zw7 (by omega),rfl⟩)|(obtain rfl:n=-1000000000:=(by omega);go_ret;exact⟨rfl,rfl⟩)
theorem ZiY (op : Nat) (hop : op <= 3) (a b : Int) (ha : vOk a) (hb : vOk b) (w : World) : Calls Tryz.prog 198 #[.int .i64 (op + 1 : Nat), .int .i64 a, .int .i64 b] w fun e w' => e = .returned (.int .i64 (twoV op a b)) /\ w' = w := by
  obtain⟨a1,a2⟩:=ha
  obtain⟨b1,b2⟩:=hb
  rcases(by omega:op=0∨op=1∨op=2∨op=3)with rfl|rfl|rfl|rfl
  · rw[Zzj]
    go_enter Tryz.func198,Tryz.ntmps198
    go_wp2_with (go_at_call 229;refine(Zho _ _).mono ?_;rintro e w' ⟨rfl,rfl⟩)
    go_ret
    exact⟨rfl,rfl⟩
  · rw[Zzk]
    go_enter Tryz.func198,Tryz.ntmps198
    go_wp2_with (go_at_call 229;refine(Zho _ _).mono ?_;rintro e w' ⟨rfl,rfl⟩)
    go_ret
    exact⟨rfl,rfl⟩
  · have hm:(Go.IntKind.i64).wrap (a*b)=a*b:=by
      have h3:=Zu6 a b a1 a2 b1 b2
      generalize a*b=ab at *
      rw[IntKind.wrap_i64];omega
    rw[Zzl]
    go_enter Tryz.func198,Tryz.ntmps198
    go_wp2_with (go_at_call 229;refine(Zho _ _).mono ?_;rintro e w' ⟨rfl,rfl⟩)
    go_ret
    exact⟨rfl,rfl⟩
  · have hq1:(a.tdiv b).natAbs<=a.natAbs:=by rw[Int.natAbs_tdiv];exact Nat.div_le_self _ _
    have hq:(Go.IntKind.i64).wrap (a.tdiv b)=a.tdiv b:=by rw[IntKind.wrap_i64];omega
    by_cases h0:b=0
    · subst h0
      rw[Zzn]
      go_enter Tryz.func198,Tryz.ntmps198
      go_wp2
      go_ret
      exact⟨rfl,rfl⟩
    · rw[Zzm a b h0]
      go_enter Tryz.func198,Tryz.ntmps198
      go_wp2
      go_ret
      exact⟨rfl,rfl⟩
def talC(l:List Int):List Value:=[.int .i64 l.length,.int .i64 l.sum,.int .i64 (maxL (l.headD 0) l),.int .i64 (minL (l.headD 0) l),.int .i64 (l.headD 0),.int .i64 (l.getLastD 0)]
def talV(l:List Int):Value:=.agg (talC l).toArray
theorem Zu0(m:Int)(l:List Int)(x:Int):maxL m (l++[x])=max (maxL m l) x:=by rw[ZuZ];split <;> omega
theorem Zu5(m:Int)(l:List Int)(x:Int):minL m (l++[x])=min (minL m l) x:=by rw[Zu4];split <;> omega
theorem Zt6(l:List Int)(x:Int):(l++[x]).getLastD 0=x:=by simp[List.getLastD_eq_getLast?]
theorem ZpP:∀l:List Int,(∀x∈l,vOk x)->-1000000000*(l.length:Int)<=l.sum/\l.sum<=1000000000*(l.length:Int)
 | [],_=>by simp
 | a :: l, h => by
   have h1:=ZpP l (fun x hx=>h x (List.mem_cons_of_mem _ hx))
   have h2:=h a (List.mem_cons_self ..)
   unfold vOk at h2
   rw[List.sum_cons,List.length_cons]
   omega
theorem ZpZ (l : List Int) (x : Int) (hl : l.length <= 10000) (hx : ∀ y ∈ l, vOk y) (hv : vOk x) (w : World) : Calls Tryz.prog 206 #[talV l, .int .i64 x] w fun e w' => e = .returned (talV (l ++ [x])) /\ Below w.heap.size w w' := by
  cases l with
  | nil=>
    unfold talV talC
    simp only[List.length_nil,List.sum_nil,maxL,minL,List.headD_nil,List.getLastD_nil,List.nil_append,List.length_singleton,List.sum_singleton,List.headD_cons,List.getLastD_cons,Int.lt_irrefl,if_false]
    go_enter Tryz.func206,Tryz.ntmps206
    go_wp2
    exact bodyPost_ret (v:=.agg #[.int .i64 1,.int .i64 x,.int .i64 x,.int .i64 x,.int .i64 x,.int .i64 x]) (by simp[results,Tryz.results206,go_sem]) rfl ⟨by simp,belB⟩
  | cons a l=>
    have hs:=ZpP (a::l) hx
    have HE:Hid (talV ((a::l)++[x])=.agg #[.int .i64 ((l.length:Int)+1+1),.int .i64 ((a::l).sum+x),.int .i64 (max (maxL a (a::l)) x),.int .i64 (min (minL a (a::l)) x),.int .i64 a,.int .i64 x]):=hid (by
      unfold talV talC
      rw[Zu0,Zu5,List.sum_append,Zt6]
      simp)
    unfold vOk at hv
    rw[HE.out]
    unfold talV talC
    rw[List.length_cons]at *
    simp only[List.headD_cons]
    generalize(a::l).sum=sm at *
    generalize maxL a (a::l)=mx at *
    generalize minL a (a::l)=mn at *
    generalize(a::l).getLastD 0=la at *
    generalize l.length=ln at *
    have hne:((ln:Int)+1 == 0)=false:=by rw[beq_eq_false_iff_ne];omega
    push_cast
    have HS:=hid hs
    clear hs
    have hsm : -10000000000000<=sm/\sm<=10000000000000:=by have:=HS.out;omega
    rcases(by omega:(mx<x/\max mx x=x)∨(x<=mx/\max mx x=mx))with ⟨g1,e1⟩|⟨g1,e1⟩ <;> rcases(by omega:(x<mn/\min mn x=x)∨(mn<=x/\min mn x=mn))with ⟨g2,e2⟩|⟨g2,e2⟩
    · rw[e1,e2]
      go_enter Tryz.func206,Tryz.ntmps206
      go_wp2
      all_goals first|omega|exact bodyPost_ret (v:=.agg #[.int .i64 ((ln:Int)+1+1),.int .i64 (sm+x),.int .i64 x,.int .i64 x,.int .i64 a,.int .i64 x]) (by simp[results,Tryz.results206,go_sem]) rfl ⟨rfl,belB⟩
    · rw[e1,e2]
      go_enter Tryz.func206,Tryz.ntmps206
      go_wp2
      all_goals first|omega|exact bodyPost_ret (v:=.agg #[.int .i64 ((ln:Int)+1+1),.int .i64 (sm+x),.int .i64 x,.int .i64 mn,.int .i64 a,.int .i64 x]) (by simp[results,Tryz.results206,go_sem]) rfl ⟨rfl,belB⟩
    · rw[e1,e2]
      go_enter Tryz.func206,Tryz.ntmps206
      go_wp2
      all_goals first|omega|exact bodyPost_ret (v:=.agg #[.int .i64 ((ln:Int)+1+1),.int .i64 (sm+x),.int .i64 mx,.int .i64 x,.int .i64 a,.int .i64 x]) (by simp[results,Tryz.results206,go_sem]) rfl ⟨rfl,belB⟩
    · rw[e1,e2]
      go_enter Tryz.func206,Tryz.ntmps206
      go_wp2
      all_goals first|omega|exact bodyPost_ret (v:=.agg #[.int .i64 ((ln:Int)+1+1),.int .i64 (sm+x),.int .i64 mx,.int .i64 mn,.int .i64 a,.int .i64 x]) (by simp[results,Tryz.results206,go_sem]) rfl ⟨rfl,belB⟩
theorem ZjK{n:Int}(h:vOk n):cutV n=n:=by unfold vOk at h;unfold cutV;split <;> (try split) <;> omega
theorem Zou:∀(l:List Int) (m:Int),vOk m->(∀x∈l,vOk x)->vOk (maxL m l)
 | [],m,h,_=>h
 | a :: l, m, h, hl => by
   rw[maxL]
   refine Zou l _ ?_ (fun x hx=>hl x (List.mem_cons_of_mem _ hx))
   split
   · exact hl a (List.mem_cons_self ..)
   · exact h
theorem Zox:∀(l:List Int) (m:Int),vOk m->(∀x∈l,vOk x)->vOk (minL m l)
 | [],m,h,_=>h
 | a :: l, m, h, hl => by
   rw[minL]
   refine Zox l _ ?_ (fun x hx=>hl x (List.mem_cons_of_mem _ hx))
   split
   · exact hl a (List.mem_cons_self ..)
   · exact h
theorem Ztm{l:List Int}(hl:∀x∈l,vOk x):vOk (l.headD 0):=by
 cases l with
 | nil=>unfold vOk;decide
 | cons a l=>exact hl a (List.mem_cons_self ..)
theorem Zt5{l:List Int}(hl:∀x∈l,vOk x):vOk (l.getLastD 0):=by
 cases l with
 | nil=>unfold vOk;decide
 | cons a l=>rw[List.getLastD_cons,<-List.getLast_eq_getLastD (a:=a) (by simp:a::l≠[])];exact hl _ (List.getLast_mem _)
theorem Zy4 (op : Nat) (hop : op <= 4) (l : List Int) (hl : l.length <= 10000) (hx : ∀ y ∈ l, vOk y) (w : World) : Calls Tryz.prog 207 #[talV l, .int .i64 op] w fun e w' => e = .returned (.int .i64 (cutV (Zek op l))) /\ Below w.heap.size w w' := by
  have h1:=Ztm hx
  have h2:=Zt5 hx
  have e1:cutV (maxL (l.headD 0) l)=maxL (l.headD 0) l:=ZjK (Zou l _ h1 hx)
  have e2:cutV (minL (l.headD 0) l)=minL (l.headD 0) l:=ZjK (Zox l _ h1 hx)
  have e3:cutV (l.length:Int)=l.length:=ZjK (by unfold vOk;omega)
  unfold Zek talV talC
  unfold vOk at h1 h2
  generalize maxL (l.headD 0) l=mx at *
  generalize minL (l.headD 0) l=mn at *
  generalize l.headD 0=hd at *
  generalize l.getLastD 0=la at *
  generalize l.sum=sm at *
  generalize l.length=ln at *
  clear hx
  rcases(by omega:op=0∨op=1∨op=2∨op=3∨op=4)with rfl|rfl|rfl|rfl|rfl
  · simp only[if_true]
    go_enter Tryz.func207,Tryz.ntmps207
    go_wp2_with (go_at_call 229;refine(Zho _ _).mono ?_;rintro e w' ⟨rfl,rfl⟩)
    go_ret
    exact⟨rfl,belB⟩
  · simp only[Nat.one_ne_zero,if_false,if_true,e1]
    go_enter Tryz.func207,Tryz.ntmps207
    go_wp2
    go_ret
    exact⟨rfl,belB⟩
  · rw[if_neg (by decide),if_neg (by decide),if_pos rfl,e2]
    go_enter Tryz.func207,Tryz.ntmps207
    go_wp2
    go_ret
    exact⟨rfl,belB⟩
  · rw[if_neg (by decide),if_neg (by decide),if_neg (by decide),if_pos rfl,e3]
    go_enter Tryz.func207,Tryz.ntmps207
    go_wp2
    go_ret
    exact⟨rfl,belB⟩
  · rw[if_neg (by decide),if_neg (by decide),if_neg (by decide),if_neg (by decide)]
    go_enter Tryz.func207,Tryz.ntmps207
    go_wp2_with (go_at_call 229;refine(Zho _ _).mono ?_;rintro e w' ⟨rfl,rfl⟩)
    go_ret
    exact⟨rfl,belB⟩
theorem ZfJ (a : Option Addr) (n c : Nat) (tx : ByteArray) (w : World) : Calls Tryz.prog 151 #[.agg #[.slice a n c, .string tx]] w fun e w' => e = .returned (.string tx) /\ ∃ o, w' = w.alloc o := by
  go_enter Tryz.func151,Tryz.ntmps151
  go_wp2
  go_ret
  exact⟨rfl,_,rfl⟩
open Go.RowKit Go.Extern.Stop Go.Stop Go.Extern LS
def ZmR : Array Value → Sem Value := ReflectliteType.method fun t => do Rtype.noPackHeld "Comparable" t; pure (.bool (← typeInfo t).comparable)
theorem Tryz.isTypeOf(v:Value)(w:World):(Extern.ReflectliteType.typeOf #[.iface 432 v]).run Tryz.prog w=.ok (.iface 209 (.agg #[.pointer (some ⟨20,432,none⟩)])) w:=by kernel_rfl
theorem Tryz.isComparable(w:World):(ZmR #[.agg #[.pointer (some ⟨20,432,none⟩)]]).run Tryz.prog w=.ok (.bool true) w:=by kernel_rfl
theorem Tryz.isMethodComparable (v : Value) (w : World) : (Go.method 562 209 v "Comparable").run Tryz.prog w = .ok (324, v) w := by kernel_rfl
theorem Tryz.isComp:(Tryz.prog.info? 432).map (·.comparable)=some true:=by kernel_rfl
theorem Tryz.isSize:(Tryz.prog.info? 451).map (·.size)=some 1:=by kernel_rfl
theorem Tryz.noIsE(v:Value)(xT:TypeId)(w:World):(Instr.typeAssert (.iface 432 v) xT 211 true).run Tryz.prog w=.ok (.tuple #[.nilIface,.bool false]) w:=run_typeAssert_lacksB Tryz.underlying211 (by kernel_rfl) (by kernel_rfl) v xT w
theorem Tryz.noUnwrapE(v:Value)(xT:TypeId)(w:World):(Instr.typeAssert (.iface 432 v) xT 214 true).run Tryz.prog w=.ok (.tuple #[.nilIface,.bool false]) w:=run_typeAssert_lacksB Tryz.underlying214 (by kernel_rfl) (by kernel_rfl) v xT w
theorem Tryz.noUnwrapsE(v:Value)(xT:TypeId)(w:World):(Instr.typeAssert (.iface 432 v) xT 215 true).run Tryz.prog w=.ok (.tuple #[.nilIface,.bool false]) w:=run_typeAssert_lacksB Tryz.underlying215 (by kernel_rfl) (by kernel_rfl) v xT w
theorem Tryz.noIsW(v:Value)(xT:TypeId)(w:World):(Instr.typeAssert (.iface 81 v) xT 211 true).run Tryz.prog w=.ok (.tuple #[.nilIface,.bool false]) w:=run_typeAssert_lacksB Tryz.underlying211 (by kernel_rfl) (by kernel_rfl) v xT w
theorem Tryz.hasUnwrapW(v:Value)(xT:TypeId)(w:World):(Instr.typeAssert (.iface 81 v) xT 214 true).run Tryz.prog w=.ok (.tuple #[.iface 81 v,.bool true]) w:=run_typeAssert_hasB Tryz.underlying214 (by kernel_rfl) v xT w
theorem Tryz.methodUnwrap (v : Value) (w : World) : (Go.method 562 81 v "Unwrap").run Tryz.prog w = .ok (312, v) w := by kernel_rfl
theorem Zgd (args : Array Value) (w : World) : (callFunc 57 args).run Tryz.prog w = ((ReflectliteType.typeOf args).run Tryz.prog w).andThen fun v w' => .ok (.value v) w' :=
  run_callFunc_extern Tryz.func57 (by kernel_rfl) (by kernel_rfl) (by kernel_rfl) (by kernel_rfl) args w
theorem Zi3 (args : Array Value) (w : World) : (callFunc 324 args).run Tryz.prog w = ((ZmR args).run Tryz.prog w).andThen fun v w' => .ok (.value v) w' :=
  run_callFunc_extern Tryz.func324 (by kernel_rfl) (by kernel_rfl) (by kernel_rfl) (by kernel_rfl) args w
theorem Zg0(a:Addr)(w:World) :
  Calls Tryz.prog 32 #[.iface 432 (.pointer (some a)),.iface 432 (.pointer (some a))] w fun e w'=>e=.returned (.bool true)/\w'=w:=by
 obtain⟨i,hi,hcmp⟩:=Option.map_eq_some_iff.1 Tryz.isComp
 obtain⟨j,hj,hjs⟩:=Option.map_eq_some_iff.1 Tryz.isSize
 have h8:=Zgd
 have h32:=Zi3
 have tT:=Tryz.isTypeOf
 have cT:=Tryz.isComparable
 have mR:=Tryz.isMethodComparable
 have heq:=run_eql_iface_ptr_same (P:=Tryz.prog) w a Tryz.underlying46 Tryz.underlying432 hi hcmp hj
 go_enter Tryz.func32,Tryz.ntmps32
 go_wp2
 refine wp_loop_rounds 1 ?_
 rw[rounds_succ]
 go_wp2
 go_ret
 exact⟨rfl,rfl⟩
theorem Zdj(b:Addr)(w:World) :
  Calls Tryz.prog 32 #[.nilIface,.iface 432 (.pointer (some b))] w fun e w'=>e=.returned (.bool false)/\w'=w:=by
 have hn:=run_eql_iface_nil_left (P:=Tryz.prog) w 432 (.pointer (some b)) Tryz.underlying46
 go_enter Tryz.func32,Tryz.ntmps32
 go_wp2
 go_ret
 exact⟨rfl,rfl⟩
theorem Zco(a b:Addr)(ca cb:Array Value)(ta tb:TypeId)(w:World)(hne:a≠b)(ha:w.heap[a.block]?=some (.cells ca ta (0,0)))(hb:w.heap[b.block]?=some (.cells cb tb (0,0))) :
  Calls Tryz.prog 32 #[.iface 432 (.pointer (some a)),.iface 432 (.pointer (some b))] w fun e w'=>e=.returned (.bool false)/\w'=w:=by
 obtain⟨i,hi,hcmp⟩:=Option.map_eq_some_iff.1 Tryz.isComp
 obtain⟨j,hj,hjs⟩:=Option.map_eq_some_iff.1 Tryz.isSize
 have h8:=Zgd
 have h32:=Zi3
 have tT:=Tryz.isTypeOf
 have cT:=Tryz.isComparable
 have mR:=Tryz.isMethodComparable
 have nE:=Tryz.noIsE
 have uE:=Tryz.noUnwrapE
 have vE:=Tryz.noUnwrapsE
 have nW:=Tryz.noIsW
 have uW:=Tryz.hasUnwrapW
 have mU:=Tryz.methodUnwrap
 have heq:=run_eql_iface_ptr_other (P:=Tryz.prog) w Tryz.underlying46 Tryz.underlying432 hi hcmp hj (by rw[hjs];decide) hne ha hb
 go_enter Tryz.func32,Tryz.ntmps32
 go_wp2
 refine wp_loop_rounds 1 ?_
 rw[rounds_succ]
 go_wp2
 go_ret
 exact⟨rfl,rfl⟩
theorem Zh0(pb:Nat)(b:Addr)(w:World)(h1:w.cell? ⟨pb,2,none⟩=some (.iface 432 (.pointer (some b)))) :
  Calls Tryz.prog 32 #[.iface 81 (.pointer (some ⟨pb,0,none⟩)),.iface 432 (.pointer (some b))] w fun e w'=>e=.returned (.bool true)/\w'=w:=by
 obtain⟨i,hi,hcmp⟩:=Option.map_eq_some_iff.1 Tryz.isComp
 obtain⟨j,hj,hjs⟩:=Option.map_eq_some_iff.1 Tryz.isSize
 have h8:=Zgd
 have h32:=Zi3
 have tT:=Tryz.isTypeOf
 have cT:=Tryz.isComparable
 have mR:=Tryz.isMethodComparable
 have nE:=Tryz.noIsE
 have uE:=Tryz.noUnwrapE
 have vE:=Tryz.noUnwrapsE
 have nW:=Tryz.noIsW
 have uW:=Tryz.hasUnwrapW
 have mU:=Tryz.methodUnwrap
 have heq:=run_eql_iface_ptr_same (P:=Tryz.prog) w b Tryz.underlying46 Tryz.underlying432 hi hcmp hj
 have hty:=run_eql_iface_types (P:=Tryz.prog) 81 432 (.pointer (some ⟨pb,0,none⟩)) (.pointer (some b)) Tryz.underlying46 (by decide) w
 go_enter Tryz.func32,Tryz.ntmps32
 go_wp2
 refine wp_loop_rounds 2 ?_
 rw[rounds_succ]
 go_wp2
 rw[rounds_succ]
 go_wp2
 go_ret
 exact⟨rfl,rfl⟩
theorem Zdt(pb:Nat)(b a:Addr)(ca cb:Array Value)(ta tb:TypeId)(w:World)(h1:w.cell? ⟨pb,2,none⟩=some (.iface 432 (.pointer (some a))))(hne:a≠b)(ha:w.heap[a.block]?=some (.cells ca ta (0,0)))(hb:w.heap[b.block]?=some (.cells cb tb (0,0))) :
  Calls Tryz.prog 32 #[.iface 81 (.pointer (some ⟨pb,0,none⟩)),.iface 432 (.pointer (some b))] w fun e w'=>e=.returned (.bool false)/\w'=w:=by
 obtain⟨i,hi,hcmp⟩:=Option.map_eq_some_iff.1 Tryz.isComp
 obtain⟨j,hj,hjs⟩:=Option.map_eq_some_iff.1 Tryz.isSize
 have h8:=Zgd
 have h32:=Zi3
 have tT:=Tryz.isTypeOf
 have cT:=Tryz.isComparable
 have mR:=Tryz.isMethodComparable
 have nE:=Tryz.noIsE
 have uE:=Tryz.noUnwrapE
 have vE:=Tryz.noUnwrapsE
 have nW:=Tryz.noIsW
 have uW:=Tryz.hasUnwrapW
 have mU:=Tryz.methodUnwrap
 have heq:=run_eql_iface_ptr_other (P:=Tryz.prog) w Tryz.underlying46 Tryz.underlying432 hi hcmp hj (by rw[hjs];decide) hne ha hb
 have hty:=run_eql_iface_types (P:=Tryz.prog) 81 432 (.pointer (some ⟨pb,0,none⟩)) (.pointer (some b)) Tryz.underlying46 (by decide) w
 go_enter Tryz.func32,Tryz.ntmps32
 go_wp2
 refine wp_loop_rounds 2 ?_
 rw[rounds_succ]
 go_wp2
 rw[rounds_succ]
 go_wp2
 go_ret
 exact⟨rfl,rfl⟩
theorem ZkY{w:World}{base:Nat}{e:TypeId}{g n cap:Nat}{xs:List Value}(h:w.ownsRow base e 1 (.slice (some ⟨g,0,none⟩) n cap) n xs)(i:Nat)(u:Value):(w.setCell ⟨g,i,none⟩ u).ownsRow base e 1 (.slice (some ⟨g,0,none⟩) n cap) n (xs.set i u):=by
 obtain⟨hl,h⟩:=h
 refine⟨by rw[List.length_set];exact hl,?_⟩
 rcases h with ⟨h,_⟩|⟨g',cap',cur,hv,hb,hh,hn,hc,hs,ht⟩
 ·cases h
 ·injection hv with h1 _ h3
  injection h1 with h1
  injection h1 with h1
  subst h1 h3
  refine Or.inr ⟨g,cap,cur.setIfInBounds i u,rfl,hb,?_,hn,hc,by simpa using hs,?_⟩
  ·simp[World.setCell,Array.getElem?_modify,hh]
  ·rw[Nat.mul_one]at ht ⊢
   rw[<-ht,Array.toList_setIfInBounds,List.take_set]
theorem ZxA(c k:Nat)(f:Nat->Value)(z:Value)(hk:k<c):((List.range k).map f++List.replicate (c - k) z).set k (f k)=(List.range (k+1)).map f++List.replicate (c - (k+1)) z:=by
 have e:c - k=(c - (k+1))+1:=by omega
 rw[e,List.replicate_succ,List.set_append_right _ _ (by simp),List.range_succ,List.map_append,List.append_assoc]
 simp
theorem Tryz.infoInt3:(Tryz.prog.info? 3).map (fun i=>(i.zero,i.size,i.bytes))=some (some (.int .i64 0),1,8):=by kernel_rfl
theorem Zfk (t : Int) (w : World) : Calls Tryz.prog 90 #[.int .i64 t] w fun e w' => e = .returned (.bool (decide (-1000000 <= t) && decide (t <= 1000000))) /\ w' = w := by
  by_cases h1 : -1000000<=t
  · by_cases h2:t<=1000000
    · rw[show(decide (-1000000<=t) && decide (t<=1000000))=true by simp;omega]
      go_enter Tryz.func90,Tryz.ntmps90
      go_wp2
      go_ret
      exact⟨rfl,rfl⟩
    · rw[show(decide (-1000000<=t) && decide (t<=1000000))=false by simp;omega]
      go_enter Tryz.func90,Tryz.ntmps90
      go_wp2
      go_ret
      exact⟨rfl,rfl⟩
  · rw[show(decide (-1000000<=t) && decide (t<=1000000))=false by simp;omega]
    go_enter Tryz.func90,Tryz.ntmps90
    go_wp2
    go_ret
    exact⟨rfl,rfl⟩
open Go.ChangeMaps (setBlock)
section
variable {w w' w1 w2:World} {S S1:Nat->Prop} {b N k:Nat} {f:Nat->Option Int} {v:Int}
structure KeepS (S:Nat->Prop) (w w':World):Prop where
 os:w'.os=w.os
 tape:w'.tape=w.tape
 output:w'.output=w.output
 size:w.heap.size<=w'.heap.size
 block:∀k,k<w.heap.size->¬S k->w'.heap[k]?=w.heap[k]?
theorem KeepS.refl(S:Nat->Prop)(w:World):KeepS S w w:=⟨rfl,rfl,rfl,Nat.le_refl _,fun _ _ _=>rfl⟩
theorem KeepS.trans(h:KeepS S w w1)(q:KeepS S1 w1 w2)(hs:∀j,S1 j->j<w.heap.size->S j):KeepS S w w2:=⟨q.os.trans h.os,q.tape.trans h.tape,q.output.trans h.output,Nat.le_trans h.size q.size,fun j hj hn=>(q.block j (Nat.lt_of_lt_of_le hj h.size) (fun h1=>hn (hs j h1 hj))).trans (h.block j hj hn)⟩
theorem KeepS.grown{r:Option Nat}(h:w.grownBy w' r)(hr:∀j,r=some j->S j):KeepS S w w':=⟨h.os,h.tape,h.output,h.size,fun j hj hn=>h.block j hj (fun e=>hn (hr j e.symm))⟩
theorem KeepS.ofBelow(S:Nat->Prop)(h:Below w.heap.size w w'):KeepS S w w':=⟨h.os,h.tape,h.output,h.size,fun j hj _=>h.block j hj⟩
theorem KeepS.below{B:Nat}(h:KeepS S w w')(hS:∀j,S j->B<=j)(hB:B<=w.heap.size):Below B w w':=⟨h.os,h.tape,h.output,h.size,fun j hj=>h.block j (Nat.lt_of_lt_of_le hj hB) (fun h1=>by have:=hS j h1;omega)⟩
theorem KeepS.bat(h:KeepS S w w'){a:Nat}{c:List Value}{t:TypeId}(hb:BAt w a c t)(hn:¬S a):BAt w' a c t:=(h.block a hb.lt hn).trans hb
theorem KeepS.own(h:KeepS S w w'){base:Nat}{e:TypeId}{sz:Nat}{u:Value}{n:Nat}{xs:List Value}(ho:w.ownsRow base e sz u n xs)(hn:∀j,u.ownBlock=some j->¬S j):w'.ownsRow base e sz u n xs:=ZeY ho (fun j hj=>h.block j (ho.lt j hj).2 (hn j hj))
def kI(k:Nat):Lit:=.int .i64 (k:Int)
theorem Zh3{a b:Nat}(h:kI a=kI b):a=b:=by
 unfold kI at h;injection h with _ h;omega
theorem Zgc{k:Nat}(hk:k<9223372036854775808):(Lit.int .i64 (k:Int)).wf=true:=by
 show(decide (IntKind.i64.min<=(k:Int)) && decide ((k:Int)<=IntKind.i64.max))=true
 rw[show IntKind.i64.min=-9223372036854775808 from rfl,show IntKind.i64.max=9223372036854775807 from rfl,Bool.and_eq_true]
 exact⟨decide_eq_true (by omega),decide_eq_true (by omega)⟩
theorem Zfn{a b:Int}(h:(DataW.lit (.int .i64 a):DataW Unit)=.lit (.int .i64 b)):a=b:=by injection h with h;injection h
theorem Zh4{k:Nat}(hk:k<9223372036854775808):keyOf Tryz.prog 3 (.int .i64 (k:Int))=some (kI k):=Maps.keyOf_int_mk Tryz.underlying3 (Zgc hk)
theorem intK:Maps.Keyed Tryz.prog 3:=Maps.int_keyed Tryz.underlying3
noncomputable abbrev eI:Value->Option (DataW Unit×List MemPlace):=plainElem Tryz.prog 3
theorem ZvX{n:Nat}{D:DataW Unit}{R:Value->Option (DataW Unit×List MemPlace)}{kt:TypeId}(h:w.ownsMap Tryz.prog kt R b n D)(hN:Maps.size D<=N):w.ownsMap Tryz.prog kt R b N D:=by
 obtain⟨es,cl,h1,h2,h3,h4⟩:=h
 refine⟨es,cl,h1,h2,?_,h4⟩
 rw[h4]at hN
 simpa [Maps.size,length_sorted] using hN
theorem pig : ∀ (N : Nat) (es : List (Lit × DataW Unit)), es.Pairwise (fun p q => p.1 ≠ q.1) -> (∀ p ∈ es, ∃ k, k < N /\ p.1 = kI k) -> es.length <= N
  | 0,[],_,_=>Nat.le_refl _
  | 0,p::_,_,h=>by obtain⟨k,hk,_⟩:=h p (List.mem_cons_self ..);omega
  | N + 1, es, hp, h => by
    have h1:=Maps.length_strike (k:=kI N) es hp
    have h2 := pig N (es.filter fun p => !p.1.sameKey (kI N)) (hp.filter _) (fun p hq => by
      rw[List.mem_filter]at hq
      obtain⟨k,hk,e⟩:=h p hq.1
      refine⟨k,?_,e⟩
      rcases Nat.lt_or_ge k N with h3|h3
      · exact h3
      · obtain rfl:k=N:=by omega
        rw[e,WideAt.sameKey_self (by trivial)]at hq
        exact absurd hq.2 (by decide))
    split at h1 <;> omega
def MapZ(w:World)(b N:Nat)(f:Nat->Option Int):Prop:=∃D:DataW Unit,w.ownsMap Tryz.prog 3 eI b N D/\(∀l,Maps.has D l=true->∃k,k<N/\l=kI k)/\∀k,k<N->(f k=none->Maps.has D (kI k)=false)/\∀v,f k=some v->Maps.has D (kI k)=true/\∀z,D.atKey (kI k) z=.lit (.int .i64 v)
theorem MapZ.lt(h:MapZ w b N f):b<w.heap.size:=by obtain⟨D,h1,_⟩:=h;exact h1.lt
theorem MapZ.move(h:MapZ w b N f)(hh:w'.heap[b]?=w.heap[b]?):MapZ w' b N f:=by
 obtain⟨D,⟨es,cl,h1,h2⟩,h3⟩:=h
 exact⟨D,⟨es,cl,hh.trans h1,h2⟩,h3⟩
theorem MapZ.obj(h:MapZ w b N f):∃es cl,w.heap[b]?=some (.map es cl):=by
 obtain⟨D,⟨es,cl,h1,_⟩,_⟩:=h
 exact⟨es,cl,h1⟩
theorem MapZ.congr(h:MapZ w b N f){g:Nat->Option Int}(hg:∀k,k<N->g k=f k):MapZ w b N g:=by
 obtain⟨D,h1,h2,h3⟩:=h
 exact⟨D,h1,h2,fun k hk=>by rw[hg k hk];exact h3 k hk⟩
theorem ZxK{D:DataW Unit}{n:Nat}(h:w.ownsMap Tryz.prog 3 eI b n D)(hk:∀l,Maps.has D l=true->∃k,k<N/\l=kI k):w.ownsMap Tryz.prog 3 eI b N D:=by
 obtain⟨es,rfl,hp,hkey⟩:=h.entries intK
 exact ZvX h (pig N es hp (fun p hq=>hk p.1 (List.any_eq_true.2 ⟨p,hq,WideAt.sameKey_self (hkey p hq)⟩)))
theorem MapZ.made(w:World)(N:Nat):MapZ (w.alloc (.map #[] 0)) w.heap.size N (fun _=>none):=⟨.map [],(World.ownsMap_made w _ _ _).mono (Nat.zero_le _),fun l h=>(by cases h),fun k _=>⟨fun _=>rfl,fun v h=>(by cases h)⟩⟩
theorem MapZ.look(h:MapZ w b N f)(hk:k<N)(hN:N<9223372036854775808)(W:World)(hW:W.heap[b]?=w.heap[b]?):(Instr.lookup 169 (.map (some b)) (.int .i64 (k:Int)) true).run Tryz.prog W=.ok (.tuple #[.int .i64 ((f k).getD 0),.bool (f k).isSome]) W:=by
 obtain⟨D,h1,h2,h3⟩:=h.move hW
 obtain⟨v,ps,hr,hv⟩:=h1.look_ok intK Tryz.underlying169 (Tryz.zeroValue3 _) (plainElem_int Tryz.underlying3 (by decide)) (Zh4 (k:=k) (by omega))
 obtain⟨c,rfl,hc,_⟩:=plainElem_int_inv Tryz.underlying3 hv
 have hc1:D.atKey (kI k) (.lit (.int .i64 0))=.lit (.int .i64 c):=congrArg Prod.fst hc
 rw[hr]
 cases hf:f k with
 | none=>
  have h4:=(h3 k hk).1 hf
  rw[Maps.atKey_of_not_has h4]at hc1
  rw[h4,<-Zfn hc1];rfl
 | some u=>
  have h4:=(h3 k hk).2 u hf
  rw[h4.2]at hc1
  rw[h4.1,<-Zfn hc1];rfl
theorem MapZ.get(h:MapZ w b N f)(hk:k<N)(hN:N<9223372036854775808)(W:World)(hW:W.heap[b]?=w.heap[b]?):(Instr.lookup 169 (.map (some b)) (.int .i64 (k:Int)) false).run Tryz.prog W=.ok (.int .i64 ((f k).getD 0)) W:=by
 obtain⟨D,h1,h2,h3⟩:=h.move hW
 obtain⟨c,hr,hv,_⟩:=h1.lookup_int intK Tryz.underlying169 Tryz.underlying3 (Tryz.zeroValue3 _) (Zh4 (k:=k) (by omega))
 rw[hr]
 cases hf:f k with
 | none=>
  rw[Maps.atKey_of_not_has ((h3 k hk).1 hf)]at hv
  rw[<-Zfn hv];rfl
 | some u=>
  rw[((h3 k hk).2 u hf).2]at hv
  rw[<-Zfn hv];rfl
theorem MapZ.put(h:MapZ w b N f)(hk:k<N)(hN:N<9223372036854775807)(hv:(Lit.int .i64 v).wf=true)(W:World)(hW:W.heap[b]?=w.heap[b]?) :
  ∃W',(Instr.mapUpdate 169 (.map (some b)) (.int .i64 (k:Int)) (.int .i64 v)).run Tryz.prog W=.ok () W'/\MapZ W' b N (fun j=>if j=k then some v else f j)/\W.grownBy W' (some b):=by
 obtain⟨D,h1,h2,h3⟩:=h.move hW
 obtain⟨W',hr,ho,hg⟩:=h1.update intK Tryz.underlying169 (by unfold maxLen;omega) (Zh4 (k:=k) (by omega)) (plainElem_int Tryz.underlying3 hv)
 have hm:=h1.isMap
 have hkl:WideAt.IsKeyLit (kI k):=by trivial
 have hkeys : ∀ l, Maps.has (D.put (kI k) (.lit (.int .i64 v))) l = true -> ∃ j, j < N /\ l = kI j := fun l hl => by
   by_cases e:l=kI k
   · exact⟨k,hk,e⟩
   · rw[Maps.has_put_other e]at hl;exact h2 l hl
 refine⟨W',hr,⟨_,ZxK ho hkeys,hkeys,fun j hj=>?_⟩,hg⟩
 by_cases e:j=k
 ·subst e
  simp only[if_pos]
  refine⟨fun h=>(by cases h),fun u hu=>?_⟩
  injection hu with hu
  subst hu
  exact⟨Maps.has_put_same hm hkl _,fun z=>Maps.atKey_put_same hm hkl _ z⟩
 ·have hne:kI j≠kI k:=fun h=>e (Zh3 h)
  simp only[if_neg e]
  refine⟨fun h=>by rw[Maps.has_put_other hne];exact(h3 j hj).1 h,fun u hu=>?_⟩
  rw[Maps.has_put_other hne]
  exact⟨((h3 j hj).2 u hu).1,fun z=>by rw[Maps.atKey_put_other hne];exact((h3 j hj).2 u hu).2 z⟩
theorem MapZ.del(h:MapZ w b N f)(hk:k<N)(hN:N<9223372036854775808)(W:World)(hW:W.heap[b]?=w.heap[b]?) :
  ∃W',(∀ty,(Builtin.delete_ #[169,3] ty #[.map (some b),.int .i64 (k:Int)]).run Tryz.prog W=.ok (.tuple #[]) W')/\MapZ W' b N (fun j=>if j=k then none else f j)/\W.grownBy W' (some b):=by
 obtain⟨D,h1,h2,h3⟩:=h.move hW
 obtain⟨W',hr,ho,hg⟩:=h1.drop intK Tryz.underlying169 (Zh4 (k:=k) (by omega)) 0
 refine⟨W',fun ty=>hr,⟨_,ho,fun l hl=>?_,fun j hj=>?_⟩,hg.grown⟩
 ·by_cases e:l=kI k
  ·exact⟨k,hk,e⟩
  ·rw[Maps.has_del_other e]at hl;exact h2 l hl
 ·by_cases e:j=k
  ·subst e
   simp only[if_pos]
   exact⟨fun _=>Maps.has_del_same,fun u hu=>(by cases hu)⟩
  ·have hne:kI j≠kI k:=fun h=>e (Zh3 h)
   simp only[if_neg e]
   refine⟨fun h=>by rw[Maps.has_del_other hne];exact(h3 j hj).1 h,fun u hu=>?_⟩
   rw[Maps.has_del_other hne]
   exact⟨((h3 j hj).2 u hu).1,fun z=>by rw[Maps.atKey_del_other hne];exact((h3 j hj).2 u hu).2 z⟩
theorem MapZ.clear (h : MapZ w b N f) (W : World) (hW : W.heap[b]? = w.heap[b]?) : ∃ W', (∀ T, (Builtin.clear_ #[169] T #[.map (some b)]).run Tryz.prog W = .ok (.tuple #[]) W') /\ MapZ W' b N (fun _ => none) /\ W.grownBy W' (some b) := by
  obtain⟨es,cl,hb⟩:=h.obj
  rw[<-hW]at hb
  have hl:b<W.heap.size:=(Array.getElem?_eq_some_iff.1 hb).1
  refine⟨setBlock W b (.map #[] cl),?_,⟨.map [],⟨#[],cl,by simp[setBlock,hl],?_,Nat.zero_le _,rfl⟩,fun l h=>(by cases h),fun k _=>⟨fun _=>rfl,fun v h=>(by cases h)⟩⟩,⟨rfl,rfl,rfl,by simp[setBlock],fun i _ hi=>by simp[setBlock,show b≠i from fun e=>hi (by rw[e])]⟩⟩
  · intro T
    simp[Builtin.clear_,run_underlying Tryz.underlying169,MapKept.run_getObj_map hb,MapKept.run_setObj_map _ hb,Result.andThen,setBlock]
  · exact⟨by simp,⟨by simp,by simp,by simp⟩,by simp⟩
end
end Go.Proofs.YtcdgkkfipdoeeaaGreatDoor

/- Parts. -/
import Derived.Test.YtkodhpilkaihjaaGreatDoorV08
import Derived.Deep.RegionHeld3
import Derived.Test.YtkodhpilkaihjaaGreatDoorV27
import Derived.ChangeKeysEq
import Derived.Deep.MidRow
namespace Go.Proofs.YtkodhpilkaihjaaGreatDoor
open Go.RowKit LS
section
variable {P:Program} {ops:Array Oper} {Q:Exit→Act→World→Prop} {md:Region.Mode} {S:World→Prop} {k:Nat}
def wpTill(P:Program)(md:Region.Mode)(ops:Array Oper)(Q:Exit→Act→World→Prop)(S:World→Prop)(k:Nat):Nat→Array Bool→Act→World→Prop
 | 0,ls,a,w=>Region.ready md ops ls=[]∧Q .normal a w
 | f + 1, ls, a, w => (Region.ready md ops ls = [] → Q .normal a w) ∧ ∀ i ∈ Region.ready md ops ls,
     wpOp P ops Q i (fun a' w'=>((ls.setIfInBounds i true).getD k true=false→S w')∧wpTill P md ops Q S k f (ls.setIfInBounds i true) a' w') a w
theorem wpTill.any:∀(f:Nat) (ls:Array Bool) (a:Act) (w:World),wpTill P md ops Q S k f ls a w→wpAny P md ops Q f ls a w
 | 0,_,_,_,h=>h
 | f+1,_,_,_,h=>⟨h.1,fun i hi=>wpOp_mono (fun _ _ h'=>wpTill.any f _ _ _ h'.2) (h.2 i hi)⟩
def shutB(md:Region.Mode)(ops:Array Oper)(ls:Array Bool):Bool:=
 (List.range ops.size).all fun j=>!ls.getD j true || ((ops[j]?).map (·.after.all fun e=>!Region.binds md e || ls.getD e.on false)).getD false
def waitsB(md:Region.Mode)(ops:Array Oper)(i:Nat):Nat→Nat→Bool
 | 0,_=>false
 | n+1,j=>((ops[j]?).map (·.after.any fun e=>Region.binds md e && (e.on == i || waitsB md ops i n e.on))).getD false
theorem shutB_iff{ls:Array Bool} : shutB md ops ls=true ↔ ∀j o,ops[j]?=some o→ls.getD j true=true→∀e∈o.after,Region.binds md e=true→ls.getD e.on false=true:=by
 unfold shutB
 rw[List.all_eq_true]
 constructor
 ·intro h j o ho hj e he hb
  have h1:=h j (List.mem_range.2 (Array.getElem?_eq_some_iff.1 ho).1)
  rw[hj,ho]at h1
  simp only[Bool.not_true,Bool.false_or,Option.map_some,Option.getD_some,Array.all_eq_true']at h1
  have h2:=h1 e he
  rw[hb]at h2
  simpa using h2
 ·intro h j hj
  rw[List.mem_range]at hj
  have ho:ops[j]?=some ops[j]:=Array.getElem?_eq_getElem hj
  cases hl:ls.getD j true with
  | false=>rfl
  | true=>
   rw[ho]
   simp only[Bool.not_true,Bool.false_or,Option.map_some,Option.getD_some,Array.all_eq_true']
   intro e he
   cases hb:Region.binds md e with
   | false=>rfl
   | true=>simpa using h j _ ho hl e he hb
theorem shutB_set{ls:Array Bool}{j:Nat}(h:shutB md ops ls=true)(hj:j∈Region.ready md ops ls):shutB md ops (ls.setIfInBounds j true)=true:=by
 rw[shutB_iff]at h ⊢
 intro i o ho hi e he hb
 obtain⟨_,oj,hoj,hall⟩:=mem_ready.1 hj
 by_cases hij:j=i
 ·subst hij
  rw[hoj]at ho
  injection ho with ho
  subst ho
  exact getD_set_true (hall e he hb)
 ·rw[getD_set_ne true hij]at hi
  exact getD_set_true (h i o ho hi e he hb)
theorem waits_not{ls:Array Bool}{i:Nat}(h:shutB md ops ls=true)(hi:ls.getD i true=false):∀(n j:Nat),waitsB md ops i n j=true→ls.getD j true=false
 | 0,_,hw=>by cases hw
 | n + 1, j, hw => by
   cases hl:ls.getD j true with
   | false=>rfl
   | true=>
     unfold waitsB at hw
     cases ho:ops[j]? with
     | none=>rw[ho]at hw;cases hw
     | some o=>
       rw[ho]at hw
       simp only[Option.map_some,Option.getD_some,Array.any_eq_true',Bool.and_eq_true,Bool.or_eq_true,beq_iff_eq]at hw
       obtain⟨e,he,hb,hor⟩:=hw
       have h1:=shutB_iff.1 h j o ho hl e he hb
       have h2:ls.getD e.on true=false:=by
         rcases hor with heq|hr
         · rw[heq];exact hi
         · exact waits_not h hi n _ hr
       exfalso
       rcases Nat.lt_or_ge e.on ls.size with h'|h'
       · simp[h']at h1 h2;rw[h2]at h1;cases h1
       · simp[h']at h1
theorem wpTill_first{i n:Nat}{oi:Oper}{v:Value}(hi:ops[i]?=some oi)(hsel:∀(j:Nat) (o:Oper) cs b,ops[j]?=some o→o.op≠.select cs b)
  (hQ:∀c a w,Q (.panic c) (a.put oi.dst v) w→Q (.panic c) a w) (hw:waitsB md ops i n k=true) (hik:i≠k) :
  ∀(f:Nat) (ls:Array Bool) (a:Act) (w:World),shutB md ops ls=true→
   (∀j oj,ops[j]?=some oj→j≠i→ls.getD j true=false→(∀e∈oj.after,Region.binds md e=true→e.on≠i)→oi.apart ops oj=true)→
   i∈Region.ready md ops ls→YieldsIf P ops S oi v a→S w→
   wpTill P md ops Q S k f (ls.setIfInBounds i true) (a.put oi.dst v) w→wpTill P md ops Q S k (f+1) ls a w
 | 0, ls, a, w, hsh, hfree, hr, hy, hS, H => by
   refine⟨fun h=>(by rw[h]at hr;cases hr),fun j hj=>?_⟩
   by_cases hji:j=i
   · subst hji;exact hy.wpOp hi hS ⟨fun _=>hS,H⟩
   · have h1:=ready_mono hj hji
     rw[H.1]at h1
     cases h1
 | f + 1, ls, a, w, hsh, hfree, hr, hy, hS, H => by
   refine⟨fun h=>(by rw[h]at hr;cases hr),fun j hj=>?_⟩
   by_cases hji:j=i
   · subst hji;exact hy.wpOp hi hS ⟨fun _=>hS,H⟩
   · have h1:=H.2 j (ready_mono hj hji)
     obtain⟨hjun,oj,hoj,hall⟩:=mem_ready.1 hj
     have hiun:=(mem_ready.1 hr).1
     have hnot : ∀ e ∈ oj.after, Region.binds md e = true → e.on ≠ i := fun e he hb heq => by
       have h2:=hall e he hb
       rw[heq]at h2
       rcases Nat.lt_or_ge i ls.size with h'|h'
       · simp[h']at hiun h2;rw[hiun]at h2;cases h2
       · simp[h']at h2
     have hsh':=shutB_set hsh hj
     have hiun':(ls.setIfInBounds j true).getD i true=false:=by rw[getD_set_ne true hji];exact hiun
     have hkun:(ls.setIfInBounds j true).getD k true=false:=waits_not hsh' hiun' n k hw
     have h2:=wpOp_putIf hoj (hfree j oj hoj hji hjun hnot) (fun cs b=>hsel i oi cs b hi) (fun cs b=>hsel j oj cs b hoj) hQ hy h1
     refine wpOp_mono (fun a' w' h3=>?_) h2
     have hS':S w':=h3.2.1 (by rw[Array.setIfInBounds_comm _ _ (Ne.symm hji),getD_set_ne true hik];exact hkun)
     refine⟨fun _=>hS',wpTill_first hi hsel hQ hw hik f (ls.setIfInBounds j true) a' w' hsh' (fun m om hm hmi hun hno=>hfree m om hm hmi ?_ hno) (ready_mono hr (Ne.symm hji)) h3.1 hS' ?_⟩
     · by_cases hjm:j=m
       · subst hjm;exact hjun
       · rw[getD_set_ne true hjm]at hun;exact hun
     · rw[Array.setIfInBounds_comm _ _ hji]
       exact h3.2.2
theorem takeT{i d:Nat}{oi:Oper}{v:Value}{f:Nat}{ls:Array Bool}{a:Act}{w:World}(hi:ops[i]?=some oi)(hd:oi.dst=some d)(hq:(Region.noSelect ops && Region.free md ops ls i && (Region.ready md ops ls).contains i && waitsB md ops i ops.size k && shutB md ops ls && i != k)=true)
  (hQ:∀c a w,Q (.panic c) (a.put oi.dst v) w→Q (.panic c) a w) (hy:YieldsIf P ops S oi v a) (hS:S w)
  (h:wpTill P md ops Q S k f (ls.setIfInBounds i true) { a with tmps:=a.tmps.setIfInBounds d v } w):wpTill P md ops Q S k (f+1) ls a w:=by
 simp only[Bool.and_eq_true,bne_iff_ne]at hq
 obtain⟨⟨⟨⟨⟨h1,h2⟩,h3⟩,h4⟩,h5⟩,h6⟩:=hq
 exact wpTill_first hi (Region.noSelect_spec h1) hQ h4 h6 f ls a w h5 (Region.free_spec hi h2) (by simpa using h3) hy hS (by rw[hd];exact h)
theorem stepT{i:Nat}{o:Oper}{f:Nat}{ls:Array Bool}{a:Act}{w:World}(hr:Region.ready md ops ls=[i])(ho:ops[i]?=some o)
  (h:∀K':Act→World→Prop,Shut (∀a w,S w→(S w→wpTill P md ops Q S k f (ls.setIfInBounds i true) a w)→K' a w)→if Region.wanted o (yielded ops a.tmps)=true then Oper.wp P o a w K' Q else K' (a.put o.dst undef) w):wpTill P md ops Q S k (f+1) ls a w:=by
 refine⟨fun h0=>(by rw[hr]at h0;cases h0),fun j hj=>?_⟩
 rw[hr,List.mem_singleton]at hj
 subst hj
 exact wpOp_step ho (fun K' hK=>h K' (fun a w hS hW=>hK a w ⟨fun _=>hS,hW hS⟩))
theorem lastT{o:Oper}{f:Nat}{ls:Array Bool}{a:Act}{w:World}(hr:Region.ready md ops ls=[k])(hr2:Region.ready md ops (ls.setIfInBounds k true)=[])(ho:ops[k]?=some o)(hk:(ls.setIfInBounds k true).getD k true=true)
  (h:∀K':Act→World→Prop,Shut (∀a w,Q .normal a w→K' a w)→if Region.wanted o (yielded ops a.tmps)=true then Oper.wp P o a w K' Q else K' (a.put o.dst undef) w):wpTill P md ops Q S k (f+1) ls a w:=by
 refine⟨fun h0=>(by rw[hr]at h0;cases h0),fun j hj=>?_⟩
 rw[hr,List.mem_singleton]at hj
 subst hj
 refine wpOp_step ho (fun K' hK=>h K' (fun a w hq=>hK a w ⟨fun h0=>(by rw[hk]at h0;cases h0),?_⟩))
 cases f with
 | zero=>exact⟨hr2,hq⟩
 | succ f=>exact⟨fun _=>hq,fun j hj=>by rw[hr2]at hj;cases hj⟩
theorem beginT{id:Nat}{a:Act}{w:World}(k:Nat)(S:World→Prop)(hm:P.follows .mixedOrders=true)(hS:S w.drew)(h:S w.drew→wpTill P .any ops Q S k ops.size (Array.replicate ops.size false) a w.drew):(Code.region id ops true).wp P Q a w:=
 wp_region_any hm (wpTill.any _ _ _ _ (h hS))
end
end Go.Proofs.YtkodhpilkaihjaaGreatDoor
namespace Go.Proofs.YtkodhpilkaihjaaGreatDoor
open Go.RowKit LS
def stCs (l : List Ah) : List Value := (List.range (83 * l.length)).map fun t => cellS (l.getD (t / 83) ah0) (t % 83)
theorem stCs_length (l : List Ah) : (stCs l).length = 83 * l.length := by simp [stCs]
theorem stCs_get (l : List Ah) (i j : Nat) (hi : i < l.length) (hj : j < 83) : (stCs l)[i * 83 + j]? = some (cellS (l.getD i ah0) j) := by
  unfold stCs
  rw [List.getElem?_map, List.getElem?_range (by omega)]
  simp only [Option.map_some]
  rw [show (i * 83 + j) / 83 = i by omega, show (i * 83 + j) % 83 = j by omega]
theorem stCs_at (l : List Ah) (t : Nat) (ht : t < 83 * l.length) : (stCs l)[t]? = some (cellS (l.getD (t / 83) ah0) (t % 83)) := by
  unfold stCs
  rw [List.getElem?_map, List.getElem?_range ht]
  rfl
theorem getD_set_same (l : List Ah) (i : Nat) (a : Ah) (hi : i < l.length) : (l.set i a).getD i ah0 = a := by
  rw [List.getD_eq_getElem?_getD, List.getElem?_set_self hi]; rfl
theorem getD_set_ne (l : List Ah) (i j : Nat) (a : Ah) (h : i ≠ j) : (l.set i a).getD j ah0 = l.getD j ah0 := by
  rw [List.getD_eq_getElem?_getD, List.getElem?_set_ne h, List.getD_eq_getElem?_getD]
theorem stCs_ext {c : List Value} {l : List Ah} (hl : c.length = 83 * l.length) (h : ∀ t, t < 83 * l.length → c[t]? = some (cellS (l.getD (t / 83) ah0) (t % 83))) : c = stCs l := by
  apply List.ext_getElem?
  intro t
  by_cases ht : t < 83 * l.length
  · rw [h t ht, stCs_at l t ht]
  · rw [List.getElem?_eq_none (by omega), List.getElem?_eq_none (by rw [stCs_length]; omega)]
theorem stCs_set {l : List Ah} {i j : Nat} {v : Value} {a2 : Ah} (hi : i < l.length) (hj : j < 83) (h : (stC (l.getD i ah0)).set j v = stC a2) : (stCs l).set (i * 83 + j) v = stCs (l.set i a2) := by
  refine stCs_ext (by simp [stCs_length]) (fun t ht => ?_)
  rw [List.length_set] at ht
  have hv : ∀ k, k < 83 → ((stC (l.getD i ah0)).set j v)[k]? = some (cellS a2 k) := fun k hk => by rw [h, stC_get a2 k hk]
  rw [List.getElem?_set]
  by_cases e : i * 83 + j = t
  · subst e
    rw [if_pos rfl, if_pos (by rw [stCs_length]; exact ht), show (i * 83 + j) / 83 = i by omega, show (i * 83 + j) % 83 = j by omega, getD_set_same l i a2 hi]
    have := hv j hj
    rw [List.getElem?_set_self (by rw [stC_length]; exact hj)] at this
    exact this
  · rw [if_neg e, stCs_at l t ht]
    by_cases ei : i = t / 83
    · rw [← ei, getD_set_same l i a2 hi]
      have := hv (t % 83) (by omega)
      rw [List.getElem?_set_ne (by intro e2; omega), stC_get _ _ (by omega)] at this
      exact this
    · rw [getD_set_ne l i (t / 83) a2 ei]
def setRange : List Value → Nat → List Value → List Value
  | c, _, [] => c
  | c, o, v :: r => setRange (c.set o v) (o + 1) r
theorem setRange_get (vs : List Value) : ∀ (c : List Value) (o t : Nat), o + vs.length ≤ c.length → (setRange c o vs)[t]? = if o ≤ t ∧ t < o + vs.length then vs[t - o]? else c[t]? := by
  induction vs with
  | nil => intro c o t h; rw [if_neg (by rw [List.length_nil]; omega)]; rfl
  | cons v r ih =>
    intro c o t h
    rw [List.length_cons] at h
    show (setRange (c.set o v) (o + 1) r)[t]? = _
    rw [ih _ _ _ (by rw [List.length_set]; omega)]
    by_cases h1 : o + 1 ≤ t ∧ t < o + 1 + r.length
    · rw [if_pos h1, if_pos (by rw [List.length_cons]; omega), show t - o = (t - (o + 1)) + 1 by omega, List.getElem?_cons_succ]
    · rw [if_neg h1, List.getElem?_set]
      by_cases h2 : o = t
      · subst h2
        rw [if_pos rfl, if_pos (by omega), if_pos (by rw [List.length_cons]; omega), Nat.sub_self]
        rfl
      · rw [if_neg h2, if_neg (by rw [List.length_cons]; omega)]
theorem setRange_length (vs : List Value) : ∀ (c : List Value) (o : Nat), (setRange c o vs).length = c.length := by
  induction vs with
  | nil => intro c o; rfl
  | cons v r ih => intro c o; show (setRange (c.set o v) (o + 1) r).length = _; rw [ih, List.length_set]
theorem stCs_range {l : List Ah} {i : Nat} {a2 : Ah} (hi : i < l.length) : setRange (stCs l) (i * 83) (stC a2) = stCs (l.set i a2) := by
  refine stCs_ext (by rw [setRange_length]; simp [stCs_length]) (fun t ht => ?_)
  rw [List.length_set] at ht
  rw [setRange_get _ _ _ _ (by rw [stC_length, stCs_length]; omega), stC_length]
  by_cases e : i * 83 ≤ t ∧ t < i * 83 + 83
  · rw [if_pos e, show t / 83 = i by omega, getD_set_same l i a2 hi, stC_get _ _ (by omega), show t - i * 83 = t % 83 by omega]
  · rw [if_neg e, stCs_at l t ht, getD_set_ne l i (t / 83) a2 (by omega)]
theorem BAt.setCells {g : Nat} {t : TypeId} : ∀ (vs : List Value) {w : World} {c : List Value} (o : Nat), BAt w g c t → BAt (w.setCells g o vs) g (setRange c o vs) t
  | [], _, _, _, h => h
  | v :: r, w, c, o, h => by
    rw [World.setCells]
    exact BAt.setCells r (o + 1) (h.setk o v)
theorem grown_setCells {g : Nat} : ∀ (vs : List Value) {w0 w : World} (o : Nat), w0.grownBy w (some g) → w0.grownBy (w.setCells g o vs) (some g)
  | [], _, _, _, h => h
  | v :: r, w0, w, o, h => by
    rw [World.setCells]
    exact grown_setCells r (o + 1) (grown_set h (Or.inl rfl) _)
theorem BAt.range {w : World} {g : Nat} {c : List Value} {t : TypeId} (h : BAt w g c t) (o : Nat) (cs : List Value) (hc : ∀ j, j < cs.length → c[o + j]? = cs[j]?) : w.rangeAt g o cs := fun j v hv => by
  have hj : j < cs.length := (List.getElem?_eq_some_iff.1 hv).1
  rw [h.cell (o + j), hc j hj, hv]
theorem BAt.there {w : World} {g : Nat} {c : List Value} {t : TypeId} (h : BAt w g c t) (o n : Nat) (hc : o + n ≤ c.length) : w.there g o n := fun j hj => by
  refine ⟨?_, h.frozen _⟩
  rw [h.cell (o + j), List.getElem?_eq_getElem (by omega)]; rfl
def stkC (a : Ah) : List Value := (List.range 64).map fun j => .int .u8 ((a.stack.reverse.getD j 0 : Nat) : Int)
theorem stkC_length (a : Ah) : (stkC a).length = 64 := by simp [stkC]
theorem stkC_get (a : Ah) (j : Nat) (hj : j < 64) : (stkC a)[j]? = some (.int .u8 ((a.stack.reverse.getD j 0 : Nat) : Int)) := by
  unfold stkC; rw [List.getElem?_map, List.getElem?_range hj]; rfl
theorem stack_inj {x y : List Nat} (hx : x.length ≤ 64) (hy : y.length ≤ 64) (kx : ∀ k ∈ x, k ≠ 0) (ky : ∀ k ∈ y, k ≠ 0) (h : ∀ j, j < 64 → x.getD j 0 = y.getD j 0) : x = y := by
  have hlen : ∀ (x y : List Nat), x.length ≤ 64 → y.length ≤ 64 → (∀ k ∈ y, k ≠ 0) → (∀ j, j < 64 → x.getD j 0 = y.getD j 0) → ¬ x.length < y.length := fun x y hx hy ky h hlt => by
    have := h x.length (by omega)
    rw [List.getD_eq_getElem?_getD, List.getElem?_eq_none (Nat.le_refl _), List.getD_eq_getElem?_getD, List.getElem?_eq_getElem hlt] at this
    exact ky _ (List.getElem_mem hlt) this.symm
  have hl : x.length = y.length := by
    have h1 := hlen x y hx hy ky h
    have h2 := hlen y x hy hx kx (fun j hj => (h j hj).symm)
    omega
  refine List.ext_getElem hl (fun j h1 h2 => ?_)
  have := h j (by omega)
  rwa [List.getD_eq_getElem?_getD, List.getElem?_eq_getElem h1, List.getD_eq_getElem?_getD, List.getElem?_eq_getElem h2] at this
theorem stkC_inj {a b : Ah} (hx : a.stack.length ≤ 64) (hy : b.stack.length ≤ 64) (kx : ∀ k ∈ a.stack, k ≠ 0) (ky : ∀ k ∈ b.stack, k ≠ 0) : (∀ j, j < 64 → a.stack.reverse.getD j 0 = b.stack.reverse.getD j 0) ↔ a.stack = b.stack := by
  constructor
  · intro h
    have := stack_inj (by simpa using hx) (by simpa using hy) (fun k hk => kx k (by simpa using hk)) (fun k hk => ky k (by simpa using hk)) h
    simpa using this
  · intro h j _; rw [h]
theorem run_part_u8 (X : Array Value) (i : Nat) (v : Value) (hv : X[i]? = some v) (w : World) : (part 308 X (i * 1)).run Tryz.prog w = .ok v w := by
  have hu : Tryz.prog.underlying 308 = some (.int .u8) := Tryz.underlying308
  unfold part
  simp only [isAgg, Sem.run_bind, run_underlying hu, Result.andThen_ok, Sem.run_pure, Nat.mul_one, hv]
  rfl
theorem run_items (a b : Ah) (d : Nat) (w : World) : ∀ is : List Nat, (∀ i ∈ is, i < 64) → (Op.eqItems (d + 1) 308 1 (stkC a).toArray (stkC b).toArray is).run Tryz.prog w = .ok (is.all fun i => a.stack.reverse.getD i 0 == b.stack.reverse.getD i 0) w
  | [], _ => rfl
  | i :: is, h => by
    have hi := h i (by simp)
    have ih := run_items a b d w is (fun j hj => h j (by simp [hj]))
    have hu : Tryz.prog.underlying 308 = some (.int .u8) := Tryz.underlying308
    simp only [Op.eqItems, Sem.run_bind]
    rw [run_part_u8 _ i _ (by rw [List.getElem?_toArray]; exact stkC_get a i hi)]
    simp only [Result.andThen_ok]
    rw [run_part_u8 _ i _ (by rw [List.getElem?_toArray]; exact stkC_get b i hi)]
    simp only [Result.andThen_ok]
    rw [run_equalIn_int w d _ .u8 .u8 _ _ hu]
    simp only [Result.andThen_ok, List.all_cons]
    by_cases e : a.stack.reverse.getD i 0 = b.stack.reverse.getD i 0
    · rw [e]; simpa using ih
    · have e1 : ((((a.stack.reverse.getD i 0 : Nat) : Int)) == (((b.stack.reverse.getD i 0 : Nat) : Int))) = false := by rw [beq_eq_false_iff_ne]; omega
      have e2 : (a.stack.reverse.getD i 0 == b.stack.reverse.getD i 0) = false := by rw [beq_eq_false_iff_ne]; exact e
      rw [e1, e2]; rfl
end Go.Proofs.YtkodhpilkaihjaaGreatDoor

/- Parts. -/
import Derived.Test.YtkodhpilkaihjaaGreatDoorV10
import Derived.Test.YtkodhpilkaihjaaGreatDoorV03
import Derived.Test.YtkodhpilkaihjaaGreatDoorV00
namespace Go.Proofs.YtkodhpilkaihjaaGreatDoor
open Go.RowKit LS
def canB(s:ByteArray):Bool:=!decide (wOr=bl s) && !decide (wBy=bl s) && !(idx (bl s) groupWords).isSome && !(idx (bl s) overWords).isSome
theorem canName_b(s:ByteArray)(w:World):Calls Tryz.prog 238 #[.string s] w fun e w'=>e=.returned (.bool (canB s))∧w'=w:=canName_any s w
theorem nameP_can{ts:List Tok}{s:ByteArray}(hs:bl s=(hd ts).txt)(hc:canB s=true):nameP ts=kindP 2 ts:=by
 unfold nameP
 by_cases hr:reserved (hd ts)=true
 ·rw[if_pos hr]
  exfalso
  unfold canB at hc
  rw[hs]at hc
  unfold reserved at hr
  simp only[Bool.and_eq_true,Bool.not_eq_true',decide_eq_false_iff_not]at hc
  simp only[Bool.or_eq_true]at hr
  obtain⟨⟨⟨h1,h2⟩,h3⟩,h4⟩:=hc
  rcases hr with ((hr|hr)|hr)|hr
  ·rw[h3]at hr;cases hr
  ·rw[h4]at hr;cases hr
  ·exact h1 (isT_txt hr).symm
  ·exact h2 (isT_txt hr).symm
 ·rw[if_neg hr]
theorem nameP_cannot{ts:List Tok}{s:ByteArray}(hs:bl s=(hd ts).txt)(hc:canB s=false):nameP ts=.error (2,(hd ts).at_):=by
 unfold nameP
 by_cases hr:reserved (hd ts)=true
 ·rw[if_pos hr]
 ·rw[if_neg hr]
  refine kindP_neg (fun hk=>hr ?_)
  unfold canB at hc
  rw[hs]at hc
  unfold reserved
  have ht:∀a:List UInt8,decide (a=(hd ts).txt)=isT a (hd ts):=by
   intro a
   unfold isT
   rw[hk,Bool.eq_iff_iff,decide_eq_true_iff,Bool.and_eq_true,beq_iff_eq]
   exact⟨fun h=>⟨rfl,h.symm⟩,fun h=>h.2.symm⟩
  rw[ht,ht]at hc
  generalize isT wOr (hd ts)=b1 at *
  generalize isT wBy (hd ts)=b2 at *
  generalize(idx (hd ts).txt groupWords).isSome=b3 at *
  generalize(idx (hd ts).txt overWords).isSome=b4 at *
  cases b1 <;> cases b2 <;> cases b3 <;> cases b4 <;> first|rfl|cases hc
def set2(w:World)(a:Nat)(x y:Value):World:=(w.setCell ⟨a,0,none⟩ x).setCell ⟨a,1,none⟩ y
theorem set2_at{w:World}{a:Nat}{p q x y:Value}{t:TypeId}(h:BAt w a [p,q] t):BAt (set2 w a x y) a [x,y] t:=by
 unfold BAt at h
 unfold BAt set2
 simp only[World.setCell,Array.getElem?_modify,h,if_true,Option.map_some];rfl
theorem set2_other(w:World)(a:Nat)(x y:Value){b:Nat}(hb:b≠a):(set2 w a x y).heap[b]?=w.heap[b]?:=by
 unfold set2
 rw[Go.Deep.blk_setCell_other _ _ _ _ hb,Go.Deep.blk_setCell_other _ _ _ _ hb]
theorem set2_grown{w0 w:World}{a b:Nat}(h:w0.grownBy w (some b))(ha:w0.heap.size≤a)(x y:Value):w0.grownBy (set2 w a x y) (some b):=
 grown_set (grown_set h (Or.inr ha) _) (Or.inr ha) _
theorem ErrIs.set2{w:World}{R:RS}{e:Nat×Nat}{v:Value}(h:ErrIs w R e v){a:Nat}{c:List Value}{t:TypeId}(hq:BAt w a c t)(ht:t≠119)(x y:Value):ErrIs (set2 w a x y) R e v:=by
 refine h.grown (b:=a) ?_ hq ht
 exact grown_set (grown_set (grown_refl w (some a)) (Or.inl rfl) _) (Or.inl rfl) _
theorem NamesV.same{w w':World}{v:Value}{ns:List (List UInt8)}(h:NamesV w v ns)(hg:∀j,v.ownBlock=some j→w'.heap[j]?=w.heap[j]?):NamesV w' v ns:=by
 obtain⟨bs,h1,h2⟩:=h;exact⟨bs,own_same h1 hg,h2⟩
theorem CondsV.same{w w':World}{v:Value}{ns:List (List UInt8×List UInt8×Bool)}(h:CondsV w v ns)(hg:∀j,v.ownBlock=some j→w'.heap[j]?=w.heap[j]?):CondsV w' v ns:=by
 obtain⟨bs,h1,h2⟩:=h;exact⟨bs,own_same h1 hg,h2⟩
theorem CondsV.kept{w w':World}{v:Value}{ns:List (List UInt8×List UInt8×Bool)}(h:CondsV w v ns){b:Nat}(hg:w.grownBy w' (some b)){c:Array Value}{t:TypeId}{fr:Nat×Nat}(hq:w.heap[b]?=some (.cells c t fr))(ht:t≠379):CondsV w' v ns:=by
 obtain⟨bs,h1,h2⟩:=h
 have hne:=own_ne_block h1 hq ht
 exact⟨bs,own_same h1 (fun j hj=>hg.block j (h1.lt j hj).2 (fun e=>by injection e with e;subst e;exact hne hj.symm)),h2⟩
theorem NamesV.kept{w w':World}{v:Value}{ns:List (List UInt8)}(h:NamesV w v ns){b:Nat}(hg:w.grownBy w' (some b)){c:Array Value}{t:TypeId}{fr:Nat×Nat}(hq:w.heap[b]?=some (.cells c t fr))(ht:t≠9):NamesV w' v ns:=by
 obtain⟨bs,h1,h2⟩:=h
 have hne:=own_ne_block h1 hq ht
 exact⟨bs,own_same h1 (fun j hj=>hg.block j (h1.lt j hj).2 (fun e=>by injection e with e;subst e;exact hne hj.symm)),h2⟩
theorem CondsV.set2{w:World}{v:Value}{ns:List (List UInt8×List UInt8×Bool)}(h:CondsV w v ns){a:Nat}{c:List Value}{t:TypeId}(hq:BAt w a c t)(ht:t≠379)(x y:Value):CondsV (set2 w a x y) v ns:=
 h.kept (b:=a) (grown_set (grown_set (grown_refl w (some a)) (Or.inl rfl) _) (Or.inl rfl) _) hq ht
set_option maxRecDepth 100000 in
set_option maxHeartbeats 4000000 in
theorem selector_t{w:World}{R:RS}{k:Nat}{ts:List Tok}(h:RK w R k ts) :
  Calls Tryz.prog 191 #[.pointer (some ⟨R.b,0,none⟩)] w fun e w'=>∃(nm:ByteArray) (la:Option Addr) (ln lc:Nat) (v:Value),e=.returned (.tuple #[.agg #[.string nm,.slice la ln lc],v])∧Hid (Res R (fun w' nd=>bl nm=nd.name∧CondsV w' (.slice la ln lc) nd.conds) w' (selP ts) v)∧w.grownBy w' (some R.b):=by
 have H:Hid (RK w R k ts):=h
 have hbl:R.b<w.heap.size:=(Array.getElem?_eq_some_iff.1 h.rd.cells).1
 clear h
 go_enter Tryz.func191,Tryz.ntmps191
 go_wp2_with fail
 refine calls_gen fun W0 hW0=>?_
 have HK0:Hid (RK W0 R k ts):=hid (by rw[hW0];exact H.out.below ((Below.refl _ _).alloc (Nat.le_refl _) _))
 have HC0:Hid (BAt W0 w.heap.size [.string ByteArray.empty,.slice none 0 0] 281):=hid (by rw[hW0];exact Go.Deep.blk_alloc_new _ _)
 have HG0:Hid (w.grownBy W0 (some R.b)):=hid (by rw[hW0];exact grown_alloc (grown_refl _ _) _)
 clear hW0
 refine(token_t HK0.out).mono ?_
 rintro e w1 ⟨⟨kd,at_,tx,tv⟩,rfl,ht,hb1⟩
 have HC1:=hid (HC0.out.below hb1)
 have HG1:Hid (w.grownBy w1 (some R.b)):=grown_trans HG0.out (grown_of_below hb1)
 have HK1:Hid (RK w1 R k ts):=HK0.out.below hb1
 clear hb1 HC0 HG0 HK0
 have HTX:Hid (bl tx=(hd ts).txt):=ht.out.2.2.1
 have hf:∀W:World,(Instr.field 167 (.agg #[.int .i64 kd,.int .i64 at_,.string tx,.int .i64 tv]) 2).run Tryz.prog W=.ok (.string tx) W:=fun _=>rfl
 go_wp2_with fail
 refine(canName_b tx _).mono ?_
 rintro e w1 ⟨rfl,rfl⟩
 cases hc:canB tx
 ·have HPE:Hid (selP ts=.error (2,(hd ts).at_)):=hid (by unfold selP;rw[nameP_cannot HTX.out hc];rfl)
  clear hc
  go_wp2_with fail
  refine(cannotStand_t HK1.out).mono ?_
  rintro e wE ⟨v,rfl,HE,hbE⟩
  obtain⟨fa,rfl⟩:=HE.out.shape
  have HCE:=hid (HC1.out.below hbE)
  have HGE:Hid (w.grownBy wE (some R.b)):=grown_trans HG1.out (grown_of_below hbE)
  clear hbE
  have f0:=HCE.out.frozen 0
  have f1:=HCE.out.frozen 1
  have c0:=HCE.out.cell 0
  have c1:=HCE.out.cell 1
  simp only[List.getElem?_cons_zero,List.getElem?_cons_succ]at c0 c1
  go_wp2
  change bodyPost _ _ _ _ _ (set2 wE w.heap.size (.string ⟨#[]⟩) (.slice none 0 0))
  have s:=set2_at HCE.out (x:=.string ⟨#[]⟩) (y:=.slice none 0 0)
  have s0:=s.cell 0
  have s1:=s.cell 1
  simp only[List.getElem?_cons_zero,List.getElem?_cons_succ]at s0 s1
  have HE2:=hid (HE.out.set2 HCE.out (by decide) (.string ⟨#[]⟩) (.slice none 0 0))
  have HGX:=hid (set2_grown HGE.out (Nat.le_refl _) (.string ⟨#[]⟩) (.slice none 0 0))
  generalize set2 wE w.heap.size (.string ⟨#[]⟩) (.slice none 0 0)=WX at *
  exact bodyPost_ret (v:=.tuple #[.agg #[.string ⟨#[]⟩,.slice none 0 0],.iface 115 (.pointer (some ⟨fa,0,none⟩))]) (by simp[results,Tryz.results191,go_sem,s0,s1]) rfl ⟨_,_,_,_,_,rfl,by rw[HPE.out];exact HE2,HGX.out⟩
 ·have HNP:Hid (nameP ts=kindP 2 ts):=nameP_can HTX.out hc
  clear hc
  go_wp2_with fail
  refine(takeName_t HK1.out).mono ?_
  rintro e w2 ⟨x,v,rfl,hres,hg⟩
  have HC2:Hid (BAt w2 w.heap.size [.string ByteArray.empty,.slice none 0 0] 281):=HC1.out.grown hg (by simp;omega)
  have HG2:Hid (w.grownBy w2 (some R.b)):=grown_trans HG1.out hg
  clear hg HC1 HG1 HK1
  by_cases hk2:(hd ts).kind=2
  ·rw[kindP_pos hk2]at hres
   obtain⟨rfl,⟨k2,hk⟩,hx⟩:=hres.out
   have HK2:Hid (RK w2 R k2 ts.tail):=hk
   have HX:Hid (bl x=(hd ts).txt):=hx
   have HNO:Hid (nameP ts=.ok ((hd ts).txt,ts.tail)):=hid (by rw[HNP.out,kindP_pos hk2])
   clear hres hk hx hk2
   go_wp2_with fail
   refine(token_t HK2.out).mono ?_
   rintro e w3 ⟨⟨kd3,at3,tx3,tv3⟩,rfl,ht3,hb3⟩
   have HC3:=hid (HC2.out.below hb3)
   have HG3:Hid (w.grownBy w3 (some R.b)):=grown_trans HG2.out (grown_of_below hb3)
   have HK3:Hid (RK w3 R k2 ts.tail):=HK2.out.below hb3
   clear hb3 HC2 HG2 HK2
   go_wp2_with fail
   refine(isMark_t ht3.out HK3.out.wf.head.1 HK3.out.wf.head.2.2 ⟨#[123]⟩ (by decide) (by decide) _).mono ?_
   rintro e w4 ⟨rfl,hb4⟩
   have HC4:=hid (HC3.out.below hb4)
   have HG4:Hid (w.grownBy w4 (some R.b)):=grown_trans HG3.out (grown_of_below hb4)
   have HK4:Hid (RK w4 R k2 ts.tail):=HK3.out.below hb4
   clear hb4 HC3 HG3 HK3 ht3
   by_cases ho:isT [123] (hd ts.tail)=true
   ·rw[show isT (bl ⟨#[123]⟩) (hd ts.tail)=true from ho]
    obtain⟨PL,hPL⟩:∃PL,PL=bnd (takeP [123] ts.tail) fun _ r=>listP condP [125] (r.length+1) [] r:=⟨_,rfl⟩
    have HSP : Hid (selP ts = bnd PL fun cs r => .ok (⟨1, 0, 0, (hd ts).txt, cs, []⟩, r)) := hid (by
      unfold selP;rw[HNO.out];show(if isT [123] (hd ts.tail)=true then _ else _)=_
      rw[if_pos ho,hPL,takeP_pos ho]
      have hl:ts.tail.length=ts.tail.tail.length+1:=by have:=HK4.out.pos;rw[List.length_tail (l:=ts.tail)];omega
      rw[hl];rfl)
    have HPL:Hid (PL=bnd (takeP [123] ts.tail) fun _ r=>listP condP [125] (r.length+1) [] r):=hPL
    clear hPL ho
    go_wp2_with fail
    refine(listConds_t HK4.out ⟨#[123]⟩ ⟨#[125]⟩ (by decide) (by decide)).mono ?_
    rintro e w5 ⟨la,ln,lc,v,rfl,hres,hg5⟩
    rw[show(bnd (takeP (bl ⟨#[123]⟩) ts.tail) fun _ r=>listP condP (bl ⟨#[125]⟩) (r.length+1) [] r)=PL from HPL.out.symm]at hres
    have HC5:Hid (BAt w5 w.heap.size [.string ByteArray.empty,.slice none 0 0] 281):=HC4.out.grown hg5 (by simp;omega)
    have HG5:Hid (w.grownBy w5 (some R.b)):=grown_trans HG4.out hg5
    clear hg5 HC4 HG4 HK4
    have f0:=HC5.out.frozen 0
    have f1:=HC5.out.frozen 1
    have c0:=HC5.out.cell 0
    have c1:=HC5.out.cell 1
    simp only[List.getElem?_cons_zero,List.getElem?_cons_succ]at c0 c1
    go_wp2
    change bodyPost _ _ _ _ _ (set2 w5 w.heap.size (.string x) (.slice la ln lc))
    have s:=set2_at HC5.out (x:=.string x) (y:=.slice la ln lc)
    have s0:=s.cell 0
    have s1:=s.cell 1
    simp only[List.getElem?_cons_zero,List.getElem?_cons_succ]at s0 s1
    have HGX:=hid (set2_grown HG5.out (Nat.le_refl _) (.string x) (.slice la ln lc))
    have HRX : Hid (Res R (fun w' nd => bl x = nd.name ∧ CondsV w' (.slice la ln lc) nd.conds) (set2 w5 w.heap.size (.string x) (.slice la ln lc)) (selP ts) v) := hid (by
      rw[HSP.out]
      cases hpl:PL with
      | error er=>rw[hpl]at hres;exact ErrIs.set2 hres.out HC5.out (by decide) _ _
      | ok pr=>
        rw[hpl]at hres
        obtain⟨h1,⟨kk,h2⟩,h3⟩:=hres.out
        exact⟨h1,⟨kk,RK.fresh H.out h2 (Nat.le_refl _) (fun j hj=>set2_other _ _ _ _ hj)⟩,HX.out,CondsV.set2 h3 HC5.out (by decide) _ _⟩)
    clear hres
    generalize set2 w5 w.heap.size (.string x) (.slice la ln lc)=WX at *
    exact bodyPost_ret (v:=.tuple #[.agg #[.string x,.slice la ln lc],v]) (by simp[results,Tryz.results191,go_sem,s0,s1]) rfl ⟨_,_,_,_,_,rfl,HRX,HGX.out⟩
   ·rw[show isT (bl ⟨#[123]⟩) (hd ts.tail)=false from Bool.eq_false_iff.2 ho]
    have HSP:Hid (selP ts=.ok (⟨1,0,0,(hd ts).txt,[],[]⟩,ts.tail)):=hid (by
     unfold selP;rw[HNO.out];show(if isT [123] (hd ts.tail)=true then _ else _)=_
     rw[if_neg ho])
    clear ho
    have f0:=HC4.out.frozen 0
    have f1:=HC4.out.frozen 1
    have c0:=HC4.out.cell 0
    have c1:=HC4.out.cell 1
    simp only[List.getElem?_cons_zero,List.getElem?_cons_succ]at c0 c1
    go_wp2
    change bodyPost _ _ _ _ _ (set2 w4 w.heap.size (.string x) (.slice none 0 0))
    have s:=set2_at HC4.out (x:=.string x) (y:=.slice none 0 0)
    have s0:=s.cell 0
    have s1:=s.cell 1
    simp only[List.getElem?_cons_zero,List.getElem?_cons_succ]at s0 s1
    have HGX:=hid (set2_grown HG4.out (Nat.le_refl _) (.string x) (.slice none 0 0))
    have HKX:=hid (RK.fresh H.out HK4.out (w':=set2 w4 w.heap.size (.string x) (.slice none 0 0)) (Nat.le_refl _) (fun j hj=>set2_other _ _ _ _ hj))
    generalize set2 w4 w.heap.size (.string x) (.slice none 0 0)=WX at *
    exact bodyPost_ret (v:=.tuple #[.agg #[.string x,.slice none 0 0],.nilIface]) (by simp[results,Tryz.results191,go_sem,s0,s1]) rfl ⟨_,_,_,_,_,rfl,by rw[HSP.out];exact⟨rfl,⟨_,HKX.out⟩,HX.out,[],World.ownsRow_nil _ _ _ _,rfl⟩,HGX.out⟩
  ·rw[kindP_neg hk2]at hres
   have HPE:Hid (selP ts=.error (2,(hd ts).at_)):=hid (by unfold selP;rw[HNP.out,kindP_neg hk2];rfl)
   obtain⟨fa,rfl⟩:=hres.out.shape
   have HE:Hid (ErrIs w2 R (2,(hd ts).at_) _):=hres.out
   clear hres hk2
   have f0:=HC2.out.frozen 0
   have f1:=HC2.out.frozen 1
   have c0:=HC2.out.cell 0
   have c1:=HC2.out.cell 1
   simp only[List.getElem?_cons_zero,List.getElem?_cons_succ]at c0 c1
   go_wp2
   change bodyPost _ _ _ _ _ (set2 w2 w.heap.size (.string x) (.slice none 0 0))
   have s:=set2_at HC2.out (x:=.string x) (y:=.slice none 0 0)
   have s0:=s.cell 0
   have s1:=s.cell 1
   simp only[List.getElem?_cons_zero,List.getElem?_cons_succ]at s0 s1
   have HE2:=hid (HE.out.set2 HC2.out (by decide) (.string x) (.slice none 0 0))
   have HGX:=hid (set2_grown HG2.out (Nat.le_refl _) (.string x) (.slice none 0 0))
   generalize set2 w2 w.heap.size (.string x) (.slice none 0 0)=WX at *
   exact bodyPost_ret (v:=.tuple #[.agg #[.string x,.slice none 0 0],.iface 115 (.pointer (some ⟨fa,0,none⟩))]) (by simp[results,Tryz.results191,go_sem,s0,s1]) rfl ⟨_,_,_,_,_,rfl,by rw[HPE.out];exact HE2,HGX.out⟩
end Go.Proofs.YtkodhpilkaihjaaGreatDoor
namespace Go.Proofs.YtkodhpilkaihjaaGreatDoor.LS
open Go Go.RowKit
def back (l : List UInt8) : Nat := l.foldl (fun n c => 256 * n + c.toNat) 0
theorem back_snoc (l : List UInt8) (c : UInt8) : back (l ++ [c]) = 256 * back l + c.toNat := by simp [back]
theorem back_lt_rev (l : List UInt8) : back l.reverse < 256 ^ l.length := by
  induction l with
  | nil => simp [back]
  | cons c l ih =>
    rw [List.reverse_cons, back_snoc, List.length_cons, Nat.pow_succ]
    have := c.toNat_lt
    omega
theorem back_lt (l : List UInt8) : back l < 256 ^ l.length := by
  have := back_lt_rev l.reverse
  rwa [List.reverse_reverse, List.length_reverse] at this
theorem back_lt_of {l : List UInt8} {n : Nat} (h : l.length ≤ n) : back l < 256 ^ n := Nat.lt_of_lt_of_le (back_lt l) (Nat.pow_le_pow_right (by decide) h)
def digL : Nat → Nat → List UInt8
  | _, 0 => []
  | n, k + 1 => digL (n / 256) k ++ [UInt8.ofNat (n % 256)]
theorem digL_len (k : Nat) : ∀ n, (digL n k).length = k := by
  induction k with
  | zero => intro n; rfl
  | succ k ih => intro n; simp [digL, ih]
theorem digL_cons (k : Nat) : ∀ n, digL n (k + 1) = UInt8.ofNat (n / 256 ^ k % 256) :: digL n k := by
  induction k with
  | zero => intro n; simp [digL]
  | succ k ih =>
    intro n
    show digL (n / 256) (k + 1) ++ [UInt8.ofNat (n % 256)] = _
    rw [ih, Nat.div_div_eq_div_mul, ← Nat.pow_succ']
    rfl
theorem back_digL (k : Nat) : ∀ n, n < 256 ^ k → back (digL n k) = n := by
  induction k with
  | zero => intro n h; simp at h; subst h; rfl
  | succ k ih =>
    intro n h
    show back (digL (n / 256) k ++ [UInt8.ofNat (n % 256)]) = n
    rw [back_snoc, ih _ (by rw [Nat.pow_succ] at h; omega), UInt8.toNat_ofNat_of_lt' (by show n % 256 < 256; omega)]
    omega
theorem digL_back_rev (l : List UInt8) : digL (back l.reverse) l.length = l.reverse := by
  induction l with
  | nil => rfl
  | cons c l ih =>
    rw [List.reverse_cons, back_snoc, List.length_cons]
    show digL ((256 * back l.reverse + c.toNat) / 256) l.length ++ [UInt8.ofNat ((256 * back l.reverse + c.toNat) % 256)] = _
    have hc := c.toNat_lt
    rw [show (256 * back l.reverse + c.toNat) / 256 = back l.reverse by omega, show (256 * back l.reverse + c.toNat) % 256 = c.toNat by omega, ih]
    simp
theorem digL_back (l : List UInt8) : digL (back l) l.length = l := by
  have := digL_back_rev l.reverse
  rwa [List.reverse_reverse, List.length_reverse] at this
def bitS (h : Nat) : Nat := if h % 2 = 1 then (h / 2) ^^^ 3988292384 else h / 2
def bitsS : Nat → Nat → Nat
  | 0, h => h
  | k + 1, h => bitS (bitsS k h)
def byteS (h : Nat) (c : UInt8) : Nat := bitsS 8 (h ^^^ c.toNat)
def sumL (l : List UInt8) : Nat := l.foldl byteS 4294967295
def sumQ (l : List UInt8) : Nat := 4294967295 - sumL l
theorem sumL_snoc (l : List UInt8) (c : UInt8) : sumL (l ++ [c]) = byteS (sumL l) c := by simp [sumL]
theorem bitS_lt {h : Nat} (hh : h < 4294967296) : bitS h < 4294967296 := by
  unfold bitS
  split
  · exact Nat.xor_lt_two_pow (n := 32) (by show h / 2 < 4294967296; omega) (by decide)
  · omega
theorem bitsS_lt {h : Nat} (hh : h < 4294967296) : ∀ k, bitsS k h < 4294967296
  | 0 => hh
  | k + 1 => bitS_lt (bitsS_lt hh k)
theorem xorb_lt {h : Nat} (hh : h < 4294967296) (c : UInt8) : h ^^^ c.toNat < 4294967296 := Nat.xor_lt_two_pow (n := 32) hh (by have := c.toNat_lt; show c.toNat < 4294967296; omega)
theorem byteS_lt {h : Nat} (hh : h < 4294967296) (c : UInt8) : byteS h c < 4294967296 := bitsS_lt (xorb_lt hh c) 8
theorem sumL_lt_rev (l : List UInt8) : sumL l.reverse < 4294967296 := by
  induction l with
  | nil => decide
  | cons c l ih => rw [List.reverse_cons, sumL_snoc]; exact byteS_lt ih c
theorem sumL_lt (l : List UInt8) : sumL l < 4294967296 := by
  have := sumL_lt_rev l.reverse
  rwa [List.reverse_reverse] at this
theorem sumQ_lt (l : List UInt8) : sumQ l < 4294967296 := by unfold sumQ; omega
def selQ (l : List UInt8) : Option Nd := match readQ l with
  | .ok (.node _ _ a _ _) => if a.kind = 1 ∧ selS a = l then some a else none
  | _ => none
def pickQ (t : List UInt8) : Option (Nd × Nat) := match seek 91 t with
  | none => (selQ t).map fun a => (a, 0)
  | some p => if t.getLast? = some 93 then (match number 1000 (t.drop (p + 1)).dropLast with
      | some n => if n = 0 then none else (selQ (t.take p)).map fun a => (a, n)
      | none => none) else none
def groupQ (t : List UInt8) : Option (List (List UInt8)) := if t = [] then some [] else if (split 44 t).all isName = true ∧ (split 44 t).Nodup then some (split 44 t) else none
structure CodeQ where
  consts : List Int
  picks : List (Nd × Nat)
  groups : List (List (List UInt8))
  ins : List (Nat × Nat)
abbrev RdR (α : Type) := Except (Nat × Nat) (α × Nat)
def sub (l : List UInt8) (p n : Nat) : List UInt8 := (l.drop p).take n
def textN (l : List UInt8) (p n : Nat) : RdR (List UInt8) := if l.length < p + n then .error (9, l.length) else .ok (sub l p n, p + n)
def numAt (l : List UInt8) (p n : Nat) : RdR Nat := match textN l p n with
  | .error e => .error e
  | .ok x => .ok (back x.1, x.2)
def signed (v : Nat) : Int := if 2147483648 ≤ v then (v : Int) - 4294967296 else v
def constAt (l : List UInt8) (p : Nat) : RdR Int := match numAt l p 4 with
  | .error e => .error e
  | .ok x => if signed x.1 < -1000000000 ∨ 1000000000 < signed x.1 then .error (9, p) else .ok (signed x.1, x.2)
def textAt (l : List UInt8) (p : Nat) : RdR (List UInt8) := match numAt l p 2 with
  | .error e => .error e
  | .ok x => textN l x.2 x.1
def pickAt (l : List UInt8) (p : Nat) : RdR (Nd × Nat) := match textAt l p with
  | .error e => .error e
  | .ok x => match pickQ x.1 with
    | none => .error (9, p)
    | some y => .ok (y, x.2)
def groupAt (l : List UInt8) (p : Nat) : RdR (List (List UInt8)) := match textAt l p with
  | .error e => .error e
  | .ok x => match groupQ x.1 with
    | none => .error (9, p)
    | some y => .ok (y, x.2)
def insAt (l : List UInt8) (p : Nat) : RdR (Nat × Nat) := match numAt l p 1 with
  | .error e => .error e
  | .ok x => if 13 < x.1 then .error (9, p) else match numAt l x.2 2 with
    | .error e => .error e
    | .ok y => .ok ((x.1, y.1), y.2)
def many {α : Type} (one : Nat → RdR α) (p : Nat) : Nat → RdR (List α)
  | 0 => .ok ([], p)
  | k + 1 => match many one p k with
    | .error e => .error e
    | .ok x => match one x.2 with
      | .error e => .error e
      | .ok y => .ok (x.1 ++ [y.1], y.2)
theorem many_err {α : Type} {one : Nat → RdR α} {p k : Nat} {e : Nat × Nat} (h : many one p k = .error e) : ∀ n, k ≤ n → many one p n = .error e := by
  intro n hn
  induction n with
  | zero => obtain rfl : k = 0 := by omega
            exact h
  | succ n ih =>
    by_cases hk : k = n + 1
    · subst hk; exact h
    · have := ih (by omega)
      unfold many
      rw [this]
theorem many_step_err {α : Type} {one : Nat → RdR α} {p k : Nat} {xs : List α} {q : Nat} {e : Nat × Nat} (h : many one p k = .ok (xs, q)) (h1 : one q = .error e) : ∀ n, k < n → many one p n = .error e :=
  fun n hn => many_err (k := k + 1) (by unfold many; rw [h]; simp only; rw [h1]) n hn
theorem many_step_ok {α : Type} {one : Nat → RdR α} {p k : Nat} {xs : List α} {q r : Nat} {y : α} (h : many one p k = .ok (xs, q)) (h1 : one q = .ok (y, r)) : many one p (k + 1) = .ok (xs ++ [y], r) := by
  unfold many; rw [h]; simp only; rw [h1]
theorem many_len {α : Type} {one : Nat → RdR α} {p : Nat} : ∀ {k : Nat} {xs : List α} {q : Nat}, many one p k = .ok (xs, q) → xs.length = k
  | 0, xs, q, h => by injection h with h; injection h with h1 h2; subst h1; rfl
  | k + 1, xs, q, h => by
    unfold many at h
    cases hm : many one p k with
    | error e => rw [hm] at h; cases h
    | ok x =>
      rw [hm] at h
      simp only at h
      cases ho : one x.2 with
      | error e => rw [ho] at h; cases h
      | ok y =>
        rw [ho] at h
        injection h with h; injection h with h1 h2
        subst h1
        have := many_len (show many one p k = .ok (x.1, x.2) from hm)
        simp [this]
def headQ (l : List UInt8) : Except (Nat × Nat) (Nat × Nat × Nat × Nat) :=
  if l.head? ≠ some 103 then .error (9, 0) else if l.length < 9 then .error (9, l.length) else .ok (back (sub l 1 2), back (sub l 3 2), back (sub l 5 2), back (sub l 7 2))
def decodeQ (l : List UInt8) : Except (Nat × Nat) CodeQ := match headQ l with
  | .error e => .error e
  | .ok n => match many (constAt l) 9 n.1 with
    | .error e => .error e
    | .ok cs => match many (pickAt l) cs.2 n.2.1 with
      | .error e => .error e
      | .ok ps => match many (groupAt l) ps.2 n.2.2.1 with
        | .error e => .error e
        | .ok gs => match many (insAt l) gs.2 n.2.2.2 with
          | .error e => .error e
          | .ok is => if l.length < is.2 + 4 then .error (9, l.length) else if is.2 + 4 < l.length then .error (9, is.2 + 4) else
            if back (l.drop is.2) ≠ sumQ (l.take is.2) then .error (10, 0) else .ok ⟨cs.1, ps.1, gs.1, is.1⟩
def refersQ (c : CodeQ) (i : Nat) (x : Nat × Nat) : Bool := match x.1 with
  | 0 => decide (x.2 < c.consts.length)
  | 1 => decide (x.2 < c.picks.length)
  | 2 => decide (x.2 < 5)
  | 3 => decide (x.2 < 4)
  | 4 => decide (x.2 = 0)
  | 9 => decide (i < x.2 ∧ x.2 ≤ c.ins.length)
  | 10 => decide (i < x.2 ∧ x.2 ≤ c.ins.length)
  | 11 => decide (x.2 = 0)
  | 12 => decide (x.2 < 16)
  | 13 => decide (x.2 < 16)
  | _ => decide (x.2 < c.groups.length)
def hasSlot (op : Nat) : Bool := op == 12 || op == 13
def slotsTo (l : List (Nat × Nat)) : Nat := l.foldl (fun n x => if hasSlot x.1 then max n (x.2 + 1) else n) 0
theorem slotsTo_snoc (l : List (Nat × Nat)) (x : Nat × Nat) : slotsTo (l ++ [x]) = if hasSlot x.1 then max (slotsTo l) (x.2 + 1) else slotsTo l := by simp [slotsTo]
structure Ah where
  known : Bool
  clash : Bool
  stack : List Nat
  slots : List Nat
def ah0 : Ah := ⟨false, false, [], List.replicate 16 0⟩
def pushQ (k : Nat) (st sl : List Nat) : Option (List Nat × List Nat) := if st.length = 64 then none else some (k :: st, sl)
def plainK (k : Nat) : Bool := k == 1 || k == 2
def kindOfP (x : Nd × Nat) : Nat := if 0 < x.2 then 3 else 2
def stepQ (c : CodeQ) (x : Nat × Nat) (st sl : List Nat) : Option (List Nat × List Nat) := match x.1 with
  | 0 => pushQ 1 st sl
  | 1 => pushQ ((c.picks[x.2]?.map kindOfP).getD 0) st sl
  | 2 => match st with
    | k :: r => if k = 3 then pushQ 2 r sl else none
    | [] => none
  | 3 => match st with
    | y :: k :: r => if plainK k && plainK y then pushQ (max k y) r sl else none
    | _ => none
  | 4 => match st with
    | k :: r => if plainK k then pushQ k r sl else none
    | [] => none
  | 9 => some (st, sl)
  | 11 => match st with
    | _ :: r => some (r, sl)
    | [] => none
  | 12 => match st with
    | k :: r => some (r, sl.set x.2 k)
    | [] => none
  | 13 => if sl.getD x.2 0 = 0 then none else pushQ (sl.getD x.2 0) st sl
  | _ => match st with
    | k :: r => if k = 2 then pushQ 2 r sl else none
    | [] => none
def both (a b : List Nat) : List Nat := List.zipWith (fun x y => if x = y then x else 0) a b
def meetQ (a : Ah) (st sl : List Nat) : Ah := if a.known then ⟨true, a.clash || decide (a.stack ≠ st), a.stack, both a.slots sl⟩ else ⟨true, false, st, sl⟩
def canJump (op : Nat) : Bool := op == 9 || op == 10
def goOn (x : Nat × Nat) (i : Nat) (st sl : List Nat) (l : List Ah) : List Ah :=
  let l1 := if canJump x.1 then l.set x.2 (meetQ (l.getD x.2 ah0) st sl) else l
  if x.1 = 9 then l1 else l1.set (i + 1) (meetQ (l1.getD (i + 1) ah0) st sl)
def passOne (c : CodeQ) (i : Nat) (l : List Ah) (m : Nat) : Except (Nat × Nat) (List Ah × Nat) :=
  let a := l.getD i ah0
  if a.known then (if a.clash then .error (12, i) else match stepQ c (c.ins.getD i (0, 0)) a.stack a.slots with
    | none => .error (12, i)
    | some s => .ok (goOn (c.ins.getD i (0, 0)) i s.1 s.2 l, max m s.1.length)) else .ok (l, m)
def pass0 (n : Nat) : List Ah := ⟨true, false, [], List.replicate 16 0⟩ :: List.replicate n ah0
def passQ (c : CodeQ) : Nat → Except (Nat × Nat) (List Ah × Nat)
  | 0 => .ok (pass0 c.ins.length, 0)
  | i + 1 => match passQ c i with
    | .error e => .error e
    | .ok x => passOne c i x.1 x.2
def isAns (a : Ah) : Bool := !a.clash && (decide (a.stack = [1]) || decide (a.stack = [2]))
def refersTo (c : CodeQ) : Nat → Except (Nat × Nat) Unit
  | 0 => .ok ()
  | i + 1 => match refersTo c i with
    | .error e => .error e
    | .ok _ => if refersQ c i (c.ins.getD i (0, 0)) then .ok () else .error (11, i)
def highQ (c : CodeQ) : Except (Nat × Nat) Nat := match passQ c c.ins.length with
  | .error e => .error e
  | .ok x => if isAns (x.1.getD c.ins.length ah0) then .ok x.2 else .error (12, c.ins.length)
def verifyQ (c : CodeQ) : Except (Nat × Nat) (Nat × Nat) := match refersTo c c.ins.length with
  | .error e => .error e
  | .ok _ => match highQ c with
    | .error e => .error e
    | .ok m => .ok (m, slotsTo c.ins)
def lookedQ (l : List UInt8) : Except (Nat × Nat) (CodeQ × Nat × Nat) := match decodeQ l with
  | .error e => .error e
  | .ok c => match verifyQ c with
    | .error e => .error e
    | .ok x => .ok (c, x)
theorem passQ_err {c : CodeQ} {k : Nat} {e : Nat × Nat} (h : passQ c k = .error e) : ∀ n, k ≤ n → passQ c n = .error e := by
  intro n hn
  induction n with
  | zero => obtain rfl : k = 0 := by omega
            exact h
  | succ n ih =>
    by_cases hk : k = n + 1
    · subst hk; exact h
    · have := ih (by omega)
      unfold passQ
      rw [this]
theorem refersTo_err {c : CodeQ} {k : Nat} {e : Nat × Nat} (h : refersTo c k = .error e) : ∀ n, k ≤ n → refersTo c n = .error e := by
  intro n hn
  induction n with
  | zero => obtain rfl : k = 0 := by omega
            exact h
  | succ n ih =>
    by_cases hk : k = n + 1
    · subst hk; exact h
    · have := ih (by omega)
      unfold refersTo
      rw [this]
theorem textN_ok {l : List UInt8} {p n : Nat} {x : List UInt8 × Nat} (h : textN l p n = .ok x) : p + n ≤ l.length ∧ x.1 = sub l p n ∧ x.2 = p + n := by
  unfold textN at h
  split at h
  · cases h
  · injection h with h; subst h; exact ⟨by omega, rfl, rfl⟩
theorem sub_len {l : List UInt8} {p n : Nat} (h : p + n ≤ l.length) : (sub l p n).length = n := by
  unfold sub; rw [List.length_take, List.length_drop]; omega
theorem numAt_ok {l : List UInt8} {p n : Nat} {x : Nat × Nat} (h : numAt l p n = .ok x) : p + n ≤ l.length ∧ x.1 = back (sub l p n) ∧ x.2 = p + n ∧ x.1 < 256 ^ n := by
  unfold numAt at h
  cases ht : textN l p n with
  | error e => rw [ht] at h; cases h
  | ok y =>
    rw [ht] at h
    injection h with h
    subst h
    obtain ⟨h1, h2, h3⟩ := textN_ok ht
    refine ⟨h1, by rw [h2], h3, ?_⟩
    show back y.1 < _
    rw [h2]
    exact back_lt_of (by rw [sub_len h1]; exact Nat.le_refl _)
theorem signed_bd {v : Nat} (h : v < 4294967296) : -2147483648 ≤ signed v ∧ signed v ≤ 2147483647 := by unfold signed; split <;> omega
theorem sub_bl (s : ByteArray) (p n : Nat) : sub (bl s) p n = bl (s.extract p (p + n)) := by
  rw [bl_extract, List.drop_take]; unfold sub; congr 1; omega
end Go.Proofs.YtkodhpilkaihjaaGreatDoor.LS

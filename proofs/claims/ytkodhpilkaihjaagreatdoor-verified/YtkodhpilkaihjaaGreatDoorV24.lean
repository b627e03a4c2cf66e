/- Parts. -/
import Derived.Test.YtkodhpilkaihjaaGreatDoorV23
import Derived.Test.YtkodhpilkaihjaaGreatDoorV20
import Derived.Sort.OwnSorted
namespace Go.Proofs.YtkodhpilkaihjaaGreatDoor
open Go.RowKit LS
theorem textAt_ok {l : List UInt8} {p : Nat} {x : List UInt8 × Nat} (h : textAt l p = .ok x) : x.1.length < 65536 ∧ x.2 ≤ l.length := by
  unfold textAt at h
  cases hn : numAt l p 2 with
  | error e => rw [hn] at h; cases h
  | ok y =>
    rw [hn] at h
    simp only at h
    obtain ⟨h1, h2, h3⟩ := textN_ok h
    have h4 := (numAt_ok hn).2.2.2
    have h4 : y.1 < 65536 := h4
    exact ⟨by rw [h2, sub_len h1]; exact h4, by omega⟩
theorem PickV.kept1 {w w' : World} {a : Nd × Nat} {v : Value} (h : PickV w a v) {b : Nat} {c : List Value} {t : TypeId} (hq : BAt w b c t) (hg : w.grownBy w' (some b)) (he : t ≠ 379) : PickV w' a v := by
  obtain ⟨x, h1, h2, h3⟩ := h; exact ⟨x, h1, h2, h3.kept1 hq hg he⟩
theorem PickV.below {w w' : World} {a : Nd × Nat} {v : Value} (h : PickV w a v) (hb : Below w.heap.size w w') : PickV w' a v := by
  obtain ⟨x, h1, h2, h3⟩ := h; exact ⟨x, h1, h2, h3.below hb⟩
structure Ground (w0 : World) (A : Nat → Addr) (m : Int) (b : Nat) : Prop where
  v : Vars w0 A m
  t : PowTab w0
  n : 20 ≤ w0.heap.size
  b : w0.heap.size ≤ b
theorem Ground.code {w0 w : World} {A : Nat → Addr} {m : Int} {b : Nat} (h : Ground w0 A m b) (hw : Below w0.heap.size w0 w) : CodeS w (A 8) := (h.v.below hw).sent _ (by decide)
theorem Ground.ng {w0 : World} {A : Nat → Addr} {m : Int} {b : Nat} (h : Ground w0 A m b) : 20 ≤ b := Nat.le_trans h.n h.b
set_option maxRecDepth 100000 in
set_option maxHeartbeats 8000000 in
theorem rsel_any (s : ByteArray) (b : Nat) (A : Nat → Addr) (m : Int) (w0 : World) (hG : Ground w0 A m b) (hs : s.size ≤ maxLen) :
    OneC 139 PickV PickZ w0 b s (A 8) (pickAt (bl s)) := by
  intro p w h0 hr hp
  have hbl := hr.lt
  have HGD := hid hG
  have HTX : Hid (∀ w, Below w0.heap.size w0 w → RdAt w b s p → Calls Tryz.prog 196 #[.pointer (some ⟨b, 0, none⟩)] w _) := hid (fun w h1 h2 => rtext_any s p b _ w h2 (hG.code h1) hG.ng hp hs)
  have H0 := hid h0
  have HR0 := hid hr
  have c1 : w.cell? ⟨b, 1, none⟩ = some (.int .i64 p) := hr.cell 1
  clear hr h0 hG hs
  go_enter Tryz.func139, Tryz.ntmps139
  go_wp2_with fail
  refine calls_gen fun W hW => ?_
  have hbW : Below w.heap.size w W := by rw [hW]; exact (Below.refl _ _).alloc (Nat.le_refl _) _
  have HXW : Hid (BAt W w.heap.size [.string ⟨#[]⟩, .slice none 0 0, .int .i64 0] 294) := hid (by rw [hW]; exact Go.Deep.blk_alloc_new _ _)
  have HGW : Hid (w.grownBy W (some b)) := hid (grown_of_below hbW)
  have H0W : Hid (Below w0.heap.size w0 W) := hid (below_by H0.out HGW.out HGD.out.b)
  have HRW := hid (HR0.out.below hbW)
  clear hW hbW c1
  refine (HTX.out W H0W.out HRW.out).mono ?_
  rintro e w1 ⟨v, err, rfl, HC, hg1⟩
  have HG1 : Hid (w.grownBy w1 (some b)) := hid (grown_trans HGW.out hg1)
  have HX1 := hid (HXW.out.grown hg1 (by intro e; injection e with e; omega))
  have H01 : Hid (Below w0.heap.size w0 w1) := hid (below_by H0.out HG1.out HGD.out.b)
  clear hg1 HGW HXW H0W HRW HTX
  cases ht : textAt (bl s) p with
  | error x =>
    obtain ⟨fa, rfl⟩ := HC.out.errShape ht
    have HF : Hid (RdC PickV PickZ w1 b s (A 8) (pickAt (bl s) p) (.agg #[.string ⟨#[]⟩, .slice none 0 0, .int .i64 0]) (.iface 115 (.pointer (some ⟨fa, 0, none⟩)))) := hid (HC.out.errMap ht (by unfold pickAt; rw [ht]) rfl)
    obtain ⟨_, _, rfl, _⟩ := HC.out.err ht
    clear HC ht
    have f0 := HX1.out.frozen 0
    have f1 := HX1.out.frozen 1
    have f2 := HX1.out.frozen 2
    have c0 := HX1.out.cell 0
    have c1 := HX1.out.cell 1
    have c2 := HX1.out.cell 2
    simp only [List.getElem?_cons_zero, List.getElem?_cons_succ] at c0 c1 c2
    go_wp2
    change bodyPost _ _ _ _ _ (set3 w1 w.heap.size (.string ⟨#[]⟩) (.slice none 0 0) (.int .i64 0))
    have st := set3_at HX1.out (x := .string ⟨#[]⟩) (y := .slice none 0 0) (z := .int .i64 0)
    have s0 := st.cell 0
    have s1 := st.cell 1
    have s2 := st.cell 2
    simp only [List.getElem?_cons_zero, List.getElem?_cons_succ] at s0 s1 s2
    have HE2 := hid (HF.out.kept (set3_self w1 w.heap.size (.string ⟨#[]⟩) (.slice none 0 0) (.int .i64 0)) HX1.out (by decide) (by decide) (fun _ h => h.kept1 HX1.out (set3_self w1 w.heap.size (.string ⟨#[]⟩) (.slice none 0 0) (.int .i64 0)) (by decide)))
    have HGX := hid (set3_grown HG1.out (Nat.le_refl _) (.string ⟨#[]⟩) (.slice none 0 0) (.int .i64 0))
    generalize set3 w1 w.heap.size (.string ⟨#[]⟩) (.slice none 0 0) (.int .i64 0) = WX at *
    exact bodyPost_ret (v := .tuple #[.agg #[.string ⟨#[]⟩, .slice none 0 0, .int .i64 0], .iface 115 (.pointer (some ⟨fa, 0, none⟩))]) (by simp [results, Tryz.results139, go_sem, s0, s1, s2]) rfl ⟨_, _, rfl, HE2, HGX.out⟩
  | ok x =>
    obtain ⟨t, q⟩ := x
    obtain ⟨rfl, ⟨tx, rfl, htx⟩, hq⟩ := HC.out.ok ht
    have hlt := (textAt_ok ht).1
    simp only at hq hlt htx
    have hts : tx.size ≤ 70000 := by rw [size_of_bl htx]; omega
    have HR1 := hid hq
    have HXP : Hid (pickAt (bl s) p = match pickQ (bl tx) with
      | none => .error (9, p)
      | some y => .ok (y, q)) := hid (by unfold pickAt; rw [ht, htx]; simp only; cases pickQ t <;> rfl)
    clear HC ht hq htx
    go_wp2_with fail
    refine (rdsel_any tx A m w1 hts (HGD.out.v.below H01.out) (HGD.out.t.low H01.out HGD.out.n) (Nat.le_trans HGD.out.n H01.out.size)).mono ?_
    rintro e w2 ⟨v, ok, rfl, HSR, hb2⟩
    have HG2 : Hid (w.grownBy w2 (some b)) := hid (grown_below HG1.out hb2)
    have HX2 := hid (HX1.out.below hb2)
    have H02 : Hid (Below w0.heap.size w0 w2) := hid (below_by H0.out HG2.out HGD.out.b)
    have HR2 := hid (HR1.out.below hb2)
    have hx2 := HX2.out.lt
    clear hb2 HX1 HG1 H01 HR1
    cases hp1 : pickQ (bl tx) with
    | none =>
      rw [hp1] at HSR
      obtain ⟨rfl, rfl⟩ := HSR.out
      have HY : Hid (pickAt (bl s) p = .error (9, p)) := hid (by rw [HXP.out, hp1])
      clear HSR hp1 HXP
      go_wp2_with fail
      refine calls_gen fun W3 hW3 => ?_
      have hb3 : Below w2.heap.size w2 W3 := by rw [hW3]; exact (Below.refl _ _).alloc (Nat.le_refl _) _
      have HG3 : Hid (w.grownBy W3 (some b)) := hid (grown_below HG2.out hb3)
      have HX3 := hid (HX2.out.below hb3)
      have H03 : Hid (Below w0.heap.size w0 W3) := hid (below_by H0.out HG3.out HGD.out.b)
      have HR3 := hid (HR2.out.below hb3)
      clear hW3 hb3 HG2 HX2 H02 HR2
      refine (cstand_any _ _ _ (HGD.out.code H03.out)).mono ?_
      rintro e w4 ⟨v, rfl, hv, hb4⟩
      have HF : Hid (RdC PickV PickZ w4 b s (A 8) (pickAt (bl s) p) (.agg #[.string ⟨#[]⟩, .slice none 0 0, .int .i64 0]) v) := hid (RdC.mkErr HY.out ⟨rfl, hv.out, rfl, _, HR3.out.below hb4⟩)
      have HG4 : Hid (w.grownBy w4 (some b)) := hid (grown_below HG3.out hb4)
      have HX4 := hid (HX3.out.below hb4)
      obtain ⟨fa, rfl⟩ := ErrAt.shape hv.out
      clear hv hb4 HX3 HG3 H03 HR3
      have f0 := HX4.out.frozen 0
      have f1 := HX4.out.frozen 1
      have f2 := HX4.out.frozen 2
      have c0 := HX4.out.cell 0
      have c1 := HX4.out.cell 1
      have c2 := HX4.out.cell 2
      simp only [List.getElem?_cons_zero, List.getElem?_cons_succ] at c0 c1 c2
      go_wp2
      change bodyPost _ _ _ _ _ (set3 w4 w.heap.size (.string ⟨#[]⟩) (.slice none 0 0) (.int .i64 0))
      have st := set3_at HX4.out (x := .string ⟨#[]⟩) (y := .slice none 0 0) (z := .int .i64 0)
      have s0 := st.cell 0
      have s1 := st.cell 1
      have s2 := st.cell 2
      simp only [List.getElem?_cons_zero, List.getElem?_cons_succ] at s0 s1 s2
      have HE2 := hid (HF.out.kept (set3_self w4 w.heap.size (.string ⟨#[]⟩) (.slice none 0 0) (.int .i64 0)) HX4.out (by decide) (by decide) (fun _ h => h.kept1 HX4.out (set3_self w4 w.heap.size (.string ⟨#[]⟩) (.slice none 0 0) (.int .i64 0)) (by decide)))
      have HGX := hid (set3_grown HG4.out (Nat.le_refl _) (.string ⟨#[]⟩) (.slice none 0 0) (.int .i64 0))
      generalize set3 w4 w.heap.size (.string ⟨#[]⟩) (.slice none 0 0) (.int .i64 0) = WX at *
      exact bodyPost_ret (v := .tuple #[.agg #[.string ⟨#[]⟩, .slice none 0 0, .int .i64 0], .iface 115 (.pointer (some ⟨fa, 0, none⟩))]) (by simp [results, Tryz.results139, go_sem, s0, s1, s2]) rfl ⟨_, _, rfl, HE2, HGX.out⟩
    | some y =>
      rw [hp1] at HSR
      obtain ⟨rfl, hpv⟩ := HSR.out
      have HPV := hid hpv
      obtain ⟨z, rfl, hz2, hz3⟩ := hpv
      have HY : Hid (pickAt (bl s) p = .ok (y, q)) := hid (by rw [HXP.out, hp1])
      have HF : Hid (RdC PickV PickZ w2 b s (A 8) (pickAt (bl s) p) (.agg #[.string z.nm, .slice z.la z.ln z.lc, .int .i64 z.n]) .nilIface) := hid (RdC.mkOk HY.out ⟨rfl, HPV.out, HR2.out⟩)
      clear HSR hp1 HXP hz2 hz3 HPV
      have f0 := HX2.out.frozen 0
      have f1 := HX2.out.frozen 1
      have f2 := HX2.out.frozen 2
      have c0 := HX2.out.cell 0
      have c1 := HX2.out.cell 1
      have c2 := HX2.out.cell 2
      simp only [List.getElem?_cons_zero, List.getElem?_cons_succ] at c0 c1 c2
      go_wp2
      change bodyPost _ _ _ _ _ ((set3 w2 w.heap.size (.string z.nm) (.slice z.la z.ln z.lc) (.int .i64 z.n)).alloc (.cells #[.string z.nm, .slice z.la z.ln z.lc, .int .i64 z.n] 294))
      have st := (set3_at HX2.out (x := .string z.nm) (y := .slice z.la z.ln z.lc) (z := .int .i64 z.n)).below ((Below.refl _ _).alloc (Nat.le_refl _) (.cells #[.string z.nm, .slice z.la z.ln z.lc, .int .i64 z.n] 294))
      have s0 := st.cell 0
      have s1 := st.cell 1
      have s2 := st.cell 2
      simp only [List.getElem?_cons_zero, List.getElem?_cons_succ] at s0 s1 s2
      have HE1 := hid (HF.out.kept (set3_self w2 w.heap.size (.string z.nm) (.slice z.la z.ln z.lc) (.int .i64 z.n)) HX2.out (by decide) (by decide) (fun _ h => h.kept1 HX2.out (set3_self w2 w.heap.size (.string z.nm) (.slice z.la z.ln z.lc) (.int .i64 z.n)) (by decide)))
      obtain ⟨g1, g2, g3⟩ := HE1.out.ok HY.out
      have HE2 : Hid (RdC PickV PickZ ((set3 w2 w.heap.size (.string z.nm) (.slice z.la z.ln z.lc) (.int .i64 z.n)).alloc (.cells #[.string z.nm, .slice z.la z.ln z.lc, .int .i64 z.n] 294)) b s (A 8) (pickAt (bl s) p) (.agg #[.string z.nm, .slice z.la z.ln z.lc, .int .i64 z.n]) .nilIface) := hid (RdC.mkOk HY.out ⟨rfl, g2.below ((Below.refl _ _).alloc (Nat.le_refl _) _), g3.below ((Below.refl _ _).alloc (Nat.le_refl _) _)⟩)
      have HGX := hid (grown_alloc (set3_grown HG2.out (Nat.le_refl _) (.string z.nm) (.slice z.la z.ln z.lc) (.int .i64 z.n)) (.cells #[.string z.nm, .slice z.la z.ln z.lc, .int .i64 z.n] 294))
      clear g1 g2 g3 HE1
      generalize (set3 w2 w.heap.size (.string z.nm) (.slice z.la z.ln z.lc) (.int .i64 z.n)).alloc (.cells #[.string z.nm, .slice z.la z.ln z.lc, .int .i64 z.n] 294) = WX at *
      exact bodyPost_ret (v := .tuple #[.agg #[.string z.nm, .slice z.la z.ln z.lc, .int .i64 z.n], .nilIface]) (by simp [results, Tryz.results139, go_sem, s0, s1, s2]) rfl ⟨_, _, rfl, HE2, HGX.out⟩
end Go.Proofs.YtkodhpilkaihjaaGreatDoor
namespace Go.Proofs.YtkodhpilkaihjaaGreatDoor.LS
open Go Go.RowKit
abbrev Lab:=List UInt8×List UInt8
abbrev El:=List Lab×Int
structure Ser where
 name:List UInt8
 labs:List Lab
 sams:List (Int×Int)
inductive VV where
 | sc (n:Int)
 | vec (l:List El)
end Go.Proofs.YtkodhpilkaihjaaGreatDoor.LS
namespace Go.Proofs.YtkodhpilkaihjaaGreatDoor
open Go.RowKit LS
theorem bls_irrefl:∀x:List UInt8,Op.bytesLess x x=false
 | []=>rfl
 | a :: x => by
   have h:¬a<a:=UInt8.lt_irrefl a
   simp[Op.bytesLess,bls_irrefl x,h]
theorem bls_trans:∀x y z:List UInt8,Op.bytesLess x y=true→Op.bytesLess y z=true→Op.bytesLess x z=true
 | x,y,[],_,h=>by cases y <;> simp[Op.bytesLess]at h
 | x,[],c::z,h,_=>by cases x <;> simp[Op.bytesLess]at h
 | [],b::y,c::z,_,_=>rfl
 | a :: x, b :: y, c :: z, h1, h2 => by
   simp only[Op.bytesLess,Bool.or_eq_true,decide_eq_true_eq,Bool.and_eq_true,beq_iff_eq]at h1 h2 ⊢
   rcases h1 with h1|⟨rfl,h1⟩
   · rcases h2 with h2|⟨rfl,h2⟩
     · exact Or.inl (UInt8.lt_trans h1 h2)
     · exact Or.inl h1
   · rcases h2 with h2|⟨rfl,h2⟩
     · exact Or.inl h2
     · exact Or.inr ⟨rfl,bls_trans x y z h1 h2⟩
theorem bls_tri:∀x y:List UInt8,Op.bytesLess x y=false→Op.bytesLess y x=false→x=y
 | [],[],_,_=>rfl
 | [],b::y,h,_=>by simp[Op.bytesLess]at h
 | a::x,[],_,h=>by simp[Op.bytesLess]at h
 | a :: x, b :: y, h1, h2 => by
   simp only[Op.bytesLess,Bool.or_eq_false_iff,decide_eq_false_iff_not,Bool.and_eq_false_iff,beq_eq_false_iff_ne]at h1 h2
   have hab:a=b:=by
     have k1:¬a.toNat<b.toNat:=fun h=>h1.1 (UInt8.lt_iff_toNat_lt.2 h)
     have k2:¬b.toNat<a.toNat:=fun h=>h2.1 (UInt8.lt_iff_toNat_lt.2 h)
     exact UInt8.toNat_inj.1 (by omega)
   subst hab
   have e:=bls_tri x y (h1.2.resolve_left (fun h=>h rfl)) (h2.2.resolve_left (fun h=>h rfl))
   rw[e]
theorem le_blsV (x y : List UInt8) : decide (x ≤ y) = !Op.bytesLess y x := by
  rw [bytesLess_eq, Bool.eq_iff_iff, decide_eq_true_iff, Bool.not_eq_true', decide_eq_false_iff_not]
  exact Iff.rfl
theorem sort_nmsV (ss : List (List UInt8)) : (ss.mergeSort fun x y => decide (x ≤ y)).Pairwise fun a b => Op.bytesLess b a = false := by
  have h := List.pairwise_mergeSort (le := fun (x y : List UInt8) => decide (x ≤ y)) (by
    intro a b c h1 h2
    rw [le_blsV, Bool.not_eq_true'] at *
    cases h : Op.bytesLess c a with
    | false => rfl
    | true =>
      cases h3 : Op.bytesLess b c with
      | true => rw [bls_trans _ _ _ h3 h] at h1; cases h1
      | false =>
        have e := bls_tri _ _ h3 h2
        rw [e, h] at h1; cases h1) (by
    intro a b
    rw [le_blsV, le_blsV]
    cases h : Op.bytesLess b a with
    | false => rfl
    | true =>
      cases h3 : Op.bytesLess a b with
      | false => rfl
      | true => have := bls_trans _ _ _ h h3; rw [bls_irrefl] at this; cases this) ss
  refine h.imp (fun {a b} hab => ?_)
  rw [le_blsV, Bool.not_eq_true'] at hab
  exact hab
theorem enc_blV (bs : List ByteArray) : flatS bs = (bs.map bl).map encStr := by
  unfold flatS
  rw [List.map_map]
  refine List.map_congr_left (fun b _ => ?_)
  cases b with
  | mk d => simp [encStr, bl]
theorem sorted_nodup {l : List (List UInt8)} (hs : l.Pairwise fun a b => Op.bytesLess b a = false) (h : ∀ k, k + 1 < l.length → l[k]? ≠ l[k + 1]?) : l.Nodup := by
  induction l with
  | nil => exact List.nodup_nil
  | cons a l ih =>
    rw [List.pairwise_cons] at hs
    rw [List.nodup_cons]
    refine ⟨fun ha => ?_, ih hs.2 (fun k hk => by have := h (k + 1) (by simpa using hk); simpa using this)⟩
    cases l with
    | nil => cases ha
    | cons c r =>
      have hac := h 0 (by simp)
      simp only [List.getElem?_cons_zero, List.getElem?_cons_succ, Nat.zero_add] at hac
      rcases List.mem_cons.1 ha with rfl | ha
      · exact hac rfl
      · have h1 := (List.pairwise_cons.1 hs.2).1 a ha
        have h2 := hs.1 c (by simp)
        exact hac (by rw [bls_tri _ _ h1 h2])
theorem groupQ_perm {t : List UInt8} {ms : List (List UInt8)} (ht : t ≠ []) (hp : ms.Perm (split 44 t)) : groupQ t = if ms.all isName = true ∧ ms.Nodup then some (split 44 t) else none := by
  unfold groupQ
  rw [if_neg ht]
  have h1 : (split 44 t).all isName = true ↔ ms.all isName = true := by
    rw [List.all_eq_true, List.all_eq_true]; exact ⟨fun h x hx => h x (hp.mem_iff.1 hx), fun h x hx => h x (hp.mem_iff.2 hx)⟩
  have h2 : (split 44 t).Nodup ↔ ms.Nodup := hp.nodup_iff.symm
  by_cases e : ms.all isName = true ∧ ms.Nodup
  · rw [if_pos e, if_pos ⟨h1.2 e.1, h2.2 e.2⟩]
  · rw [if_neg e, if_neg (fun h => e ⟨h1.1 h.1, h2.1 h.2⟩)]
def GrpR (w : World) (r : Option (List (List UInt8))) (v : Value) (ok : Bool) : Prop := match r with
  | some a => ok = true ∧ GroupV w a v
  | none => ok = false ∧ RowZ v
theorem GrpR.mkNone {w : World} {r : Option (List (List UInt8))} {v : Value} {ok : Bool} (hr : r = none) (h : ok = false ∧ RowZ v) : GrpR w r v ok := by subst hr; exact h
theorem GrpR.mkSome {w : World} {r : Option (List (List UInt8))} {v : Value} {ok : Bool} {a : List (List UInt8)} (hr : r = some a) (h : ok = true ∧ GroupV w a v) : GrpR w r v ok := by subst hr; exact h
set_option maxRecDepth 100000 in
set_option maxHeartbeats 8000000 in
theorem rdgrp_any (s : ByteArray) (A : Nat → Addr) (m : Int) (w : World) (hs : s.size ≤ 70000) (hv : Vars w A m) :
    Calls Tryz.prog 198 #[.string s] w fun e w' => ∃ v ok, e = .returned (.tuple #[v, .bool ok]) ∧ Hid (GrpR w' (groupQ (bl s)) v ok) ∧ Below w.heap.size w w' := by
  have HM := hid hv.max
  clear hv
  by_cases h0 : s.size = 0
  · have he : s.toList.isEmpty = true := empty_of (by omega)
    have HQ : Hid (groupQ (bl s) = some []) := hid (by unfold groupQ; rw [if_pos (nil_of_empty he)])
    go_enter Tryz.func198, Tryz.ntmps198
    go_wp2
    go_ret2
    exact ⟨_, _, rfl, hid (GrpR.mkSome HQ.out ⟨rfl, ⟨none, 0, 0, []⟩, rfl, rfl, [], World.ownsRow_nil _ _ _ _, List.Pairwise.nil, fun y => Iff.rfl, by simp⟩), Below.refl _ _⟩
  · have he : s.toList.isEmpty = false := not_empty_of (by omega)
    have hne := ne_of_nonempty he
    have HSP : Hid (Calls Tryz.prog 42 #[.string s, .string ⟨#[44]⟩] w _) := hid (Tryz.strings_Split s ⟨#[44]⟩ m w (by omega) HM.out (Nat.le_refl 1))
    have hd : (Lib.splitB ⟨#[44]⟩ 0 (Lib.countB s ⟨#[44]⟩) s).map bl = split 44 (bl s) := (Lib.splitB_data ⟨#[44]⟩ 0 (Lib.countB s ⟨#[44]⟩) s).trans (splitK_one 44 _ (bl s) (Nat.le_refl _))
    have hl : (Lib.splitB ⟨#[44]⟩ 0 (Lib.countB s ⟨#[44]⟩) s).length = Lib.countB s ⟨#[44]⟩ + 1 := Lib.splitB_all ⟨#[44]⟩ (Nat.le_refl 1) 0 _ s rfl
    go_enter Tryz.func198, Tryz.ntmps198
    go_wp2_with fail
    refine HSP.out.mono ?_
    rintro e w1 ⟨rfl, hw1⟩
    obtain ⟨bs, hbs⟩ : ∃ bs, bs = Lib.splitB ⟨#[44]⟩ 0 (Lib.countB s ⟨#[44]⟩) s := ⟨_, rfl⟩
    rw [← hbs] at hd hl hw1
    have hlen : (split 44 (bl s)).length ≤ s.size + 1 := by have := split_length 44 (bl s); rwa [bl_length] at this
    have hbl2 : bs.length = (split 44 (bl s)).length := by rw [← hd, List.length_map]
    obtain ⟨N, hN⟩ : ∃ N, N = Lib.countB s ⟨#[44]⟩ + 1 := ⟨_, rfl⟩
    rw [← hN] at hl ⊢
    have hN7 : N ≤ 70001 := by omega
    have hN1 : 1 ≤ N := by omega
    obtain ⟨ss, hss⟩ : ∃ ss, ss = bs.map bl := ⟨_, rfl⟩
    have hsl : ss.length = N := by rw [hss, List.length_map, hl]
    have hb1 : Below w.heap.size w w1 := by rw [hw1]; exact (Below.refl _ _).alloc (Nat.le_refl _) _
    have hh : w1.heap[w.heap.size]? = some (.cells (bs.map Value.string).toArray 9 (0, 0)) := by rw [hw1]; exact Go.Deep.blk_alloc_new _ _
    have hgl : w.heap.size < w1.heap.size := (Array.getElem?_eq_some_iff.1 hh).1
    have henc : bs.map Value.string = ss.map encStr := by rw [hss]; exact enc_blV bs
    have hH : Sort.Holds encStr w1 w.heap.size 0 ss.toArray := holds_of_block hh (by rw [henc, hsl]; exact List.take_of_length_le (by rw [List.length_map, hsl]; exact Nat.le_refl _))
    have hS := Tryz.slices_Sort_string w.heap.size 0 N ss w1 hH hgl (by omega)
    rw [hsl] at hS
    have HS := hid hS
    have HB1 := hid hb1
    have HH := hid hh
    have HSS : Hid (ss = split 44 (bl s)) := hid (by rw [hss]; exact hd)
    have HBSL : Hid (bs.length = N) := hid hl
    have HNE := hid hne
    clear hS hH hh hb1 hw1 hbs hd hl hlen hbl2 hss henc HSP hne he HM hN
    go_wp2_with (go_at_call 217; refine HS.out.mono ?_; rintro e w2 ⟨rfl, nn, os, hw2⟩; have HW2 := hid hw2; clear hw2)
    have hw2 := HW2.out
    clear HW2
    obtain ⟨ms, hms⟩ : ∃ ms, ms = ss.mergeSort (fun x y => decide (x ≤ y)) := ⟨_, rfl⟩
    have HPM : Hid (ms.Perm ss) := hid (by rw [hms]; exact List.mergeSort_perm _ _)
    have HST : Hid (ms.Pairwise fun a b => Op.bytesLess b a = false) := hid (by rw [hms]; exact sort_nmsV ss)
    have hml : ms.length = N := by rw [HPM.out.length_eq, hsl]
    have hown2 : w2.ownsRow w.heap.size 9 1 (.slice (some ⟨w.heap.size, 0, none⟩) N N) N (ms.map encStr) := by
      have h6 := ownsRow_sorted (n := nn) (os := os) (cap := N) (HPM.out.length_eq) (Nat.le_refl _) HH.out (by rw [hsl]; exact Nat.le_refl _) (by unfold maxLen; omega) (by simp [HBSL.out])
      rw [hsl] at h6
      rw [hw2, ← hms]
      exact h6
    have HB2 : Hid (Below w.heap.size w w2) := hid (by rw [hw2]; exact HB1.out.grown (grownBy_sorted _) HB1.out.size (fun j hj => by cases hj; exact Nat.le_refl _))
    have HGQ : Hid (groupQ (bl s) = if ms.all isName = true ∧ ms.Nodup then some (split 44 (bl s)) else none) := hid (groupQ_perm HNE.out (by rw [← HSS.out]; exact HPM.out))
    have HSZ : Hid (∀ k (h : k < ms.length), ms[k].length ≤ 70000) := hid (fun k h => by
      have h1 := HPM.out.mem_iff.1 (List.getElem_mem h)
      rw [HSS.out] at h1
      have := split_piece_le 44 (bl s) _ h1
      rw [bl_length] at this
      omega)
    have HO2 := hid hown2
    have HSL := hid hsl
    clear hown2 hw2 hms HS HH HB1 HBSL hsl
    go_wp2
    go_loop [5, 16] (fun lv i => ∃ (k : Nat) (last : ByteArray), k ≤ N ∧ i = .int .i64 k ∧ lv = .string last ∧ Hid (bl last = if k = 0 then [] else ms.getD (k - 1) []) ∧ Hid ((ms.take k).all isName = true) ∧ Hid (∀ j, j + 1 < k → ms[j]? ≠ ms[j + 1]?)) (fun _ i => N - (intOf i).toNat)
    case atStart => exact ⟨0, ⟨#[]⟩, Nat.zero_le _, rfl, rfl, hid rfl, hid rfl, hid (fun j hj => by omega)⟩
    case round =>
      obtain ⟨k, last, hk, rfl, rfl, HL, HA, HD⟩ := hrel
      by_cases hlt : k < N
      · have hkm : k < ms.length := by omega
        have hlz : (k : Int) < N := by omega
        obtain ⟨x, hx⟩ : ∃ x : ByteArray, x = ⟨ms[k].toArray⟩ := ⟨_, rfl⟩
        have HX : Hid (bl x = ms[k]) := hid (by rw [hx, bl_mk])
        have d0 : w2.cell? ⟨w.heap.size, k, none⟩ = some (.string x) := own_cell HO2.out k _ (by rw [hx, List.getElem?_map, List.getElem?_eq_getElem hkm]; rfl)
        have hxs : x.size ≤ 70000 := by rw [size_of_bl HX.out]; exact HSZ.out k hkm
        clear hx
        cases hn : isName (bl x) with
        | false =>
          have HG : Hid (groupQ (bl s) = none) := hid (by
            rw [HGQ.out, if_neg]
            rintro ⟨h, _⟩
            have := List.all_eq_true.1 h ms[k] (List.getElem_mem hkm)
            rw [← HX.out, hn] at this; cases this)
          go_wp2_with (go_at_call 120; refine (wIsName_big x _ hxs).mono ?_; rintro e w' ⟨rfl, rfl⟩)
          go_ret2
          exact ⟨_, _, rfl, hid (GrpR.mkNone HG.out ⟨rfl, rfl⟩), HB2.out⟩
        | true =>
          by_cases he : x = last
          · subst he
            have hbe : (x.toList == x.toList) = true := by simp
            have hk0 : k ≠ 0 := by
              intro e; subst e
              have h1 := HL.out
              rw [if_pos rfl] at h1
              rw [h1] at hn
              exact absurd hn (by decide)
            have HG : Hid (groupQ (bl s) = none) := hid (by
              rw [HGQ.out, if_neg]
              rintro ⟨_, h⟩
              have h1 := HL.out
              rw [if_neg hk0, HX.out, List.getD_eq_getElem?_getD, List.getElem?_eq_getElem (by omega), Option.getD_some] at h1
              have := (List.pairwise_iff_getElem.1 h) (k - 1) k (by omega) hkm (by omega)
              exact this h1.symm)
            clear hk0
            go_wp2_with (go_at_call 120; refine (wIsName_big x _ hxs).mono ?_; rintro e w' ⟨rfl, rfl⟩)
            go_ret2
            exact ⟨_, _, rfl, hid (GrpR.mkNone HG.out ⟨rfl, rfl⟩), HB2.out⟩
          · have hbe : (x.toList == last.toList) = false := by
              rw [beq_eq_false_iff_ne, toList_bl, toList_bl]; intro e; exact he (bl_inj e)
            have HA2 : Hid ((ms.take (k + 1)).all isName = true) := hid (by
              rw [List.take_succ_eq_append_getElem hkm, List.all_append, HA.out, ← HX.out]; simp [hn])
            have HD2 : Hid (∀ j, j + 1 < k + 1 → ms[j]? ≠ ms[j + 1]?) := hid (fun j hj => by
              by_cases e : j + 1 = k
              · subst e
                rw [List.getElem?_eq_getElem hkm, List.getElem?_eq_getElem (by omega), ← HX.out]
                intro e2
                injection e2 with e2
                have h1 := HL.out
                rw [if_neg (by omega), List.getD_eq_getElem?_getD, Nat.add_sub_cancel, List.getElem?_eq_getElem (by omega), Option.getD_some] at h1
                exact he (bl_inj (by rw [h1, e2]))
              · exact HD.out j (by omega))
            have HL2 : Hid (bl x = if k + 1 = 0 then [] else ms.getD (k + 1 - 1) []) := hid (by
              rw [if_neg (by omega), Nat.add_sub_cancel, List.getD_eq_getElem?_getD, List.getElem?_eq_getElem hkm, Option.getD_some, HX.out])
            clear he
            go_wp2_with (go_at_call 120; refine (wIsName_big x _ hxs).mono ?_; rintro e w' ⟨rfl, rfl⟩)
            go_round
            case rel => exact ⟨k + 1, x, by omega, by go_num, rfl, HL2, HA2, HD2⟩
            case measure => simp [intOf]; omega
      · obtain rfl : k = N := by omega
        have HG : Hid (groupQ (bl s) = some (split 44 (bl s))) := hid (by
          rw [HGQ.out, if_pos]
          refine ⟨by have := HA.out; rwa [List.take_of_length_le (by omega)] at this, sorted_nodup HST.out (fun j hj => HD.out j (by omega))⟩)
        have hbm : (ms.map (fun l => (⟨l.toArray⟩ : ByteArray))).map bl = ms := by
          rw [List.map_map]
          conv => rhs; rw [← List.map_id ms]
          exact List.map_congr_left (fun l _ => by simp [bl])
        have HGV : Hid (GroupV w2 (split 44 (bl s)) (.slice (some ⟨w.heap.size, 0, none⟩) k k)) := hid ⟨⟨some ⟨w.heap.size, 0, none⟩, k, k, split 44 (bl s)⟩, rfl, rfl, ms.map (fun l => ⟨l.toArray⟩), by
          have h6 := own_zero HO2.out
          rw [enc_blV, hbm, List.length_map, hml]
          exact h6, by rw [hbm]; exact HST.out, fun y => by rw [hbm, HPM.out.mem_iff, HSS.out], by rw [List.length_map]; omega⟩
        clear hbm
        go_wp2
        go_ret2
        exact ⟨_, Or.inr ⟨rfl, hid (GrpR.mkSome HG.out ⟨rfl, HGV.out⟩), HB2.out⟩⟩
theorem GroupV.below {w w' : World} {a : List (List UInt8)} {v : Value} (h : GroupV w a v) (hb : Below w.heap.size w w') : GroupV w' a v := by
  obtain ⟨x, h1, h2, h3⟩ := h; exact ⟨x, h1, h2, h3.below hb⟩
set_option maxRecDepth 100000 in
set_option maxHeartbeats 8000000 in
theorem rgrp_any (s : ByteArray) (b : Nat) (A : Nat → Addr) (m : Int) (w0 : World) (hG : Ground w0 A m b) (hs : s.size ≤ maxLen) :
    OneC 141 GroupV RowZ w0 b s (A 8) (groupAt (bl s)) := by
  intro p w h0 hr hp
  have HGD := hid hG
  have HTX : Hid (Calls Tryz.prog 196 #[.pointer (some ⟨b, 0, none⟩)] w _) := hid (rtext_any s p b _ w hr (hG.code h0) hG.ng hp hs)
  have H0 := hid h0
  have c1 : w.cell? ⟨b, 1, none⟩ = some (.int .i64 p) := hr.cell 1
  clear hr h0 hG hs
  go_enter Tryz.func141, Tryz.ntmps141
  go_wp2_with fail
  clear c1
  refine HTX.out.mono ?_
  rintro e w1 ⟨v, err, rfl, HC, hg1⟩
  have HG1 := hid hg1
  have H01 : Hid (Below w0.heap.size w0 w1) := hid (below_by H0.out hg1 HGD.out.b)
  clear hg1 HTX
  cases ht : textAt (bl s) p with
  | error x =>
    obtain ⟨fa, rfl⟩ := HC.out.errShape ht
    have HF : Hid (RdC GroupV RowZ w1 b s (A 8) (groupAt (bl s) p) (.slice none 0 0) (.iface 115 (.pointer (some ⟨fa, 0, none⟩)))) := hid (HC.out.errMap ht (by unfold groupAt; rw [ht]) rfl)
    obtain ⟨_, _, rfl, _⟩ := HC.out.err ht
    clear HC ht
    go_wp2
    go_ret2
    exact ⟨_, _, rfl, HF, HG1.out⟩
  | ok x =>
    obtain ⟨t, q⟩ := x
    obtain ⟨rfl, ⟨tx, rfl, htx⟩, hq⟩ := HC.out.ok ht
    have hlt := (textAt_ok ht).1
    simp only at hq hlt htx
    have hts : tx.size ≤ 70000 := by rw [size_of_bl htx]; omega
    have HR1 := hid hq
    have HXP : Hid (groupAt (bl s) p = match groupQ (bl tx) with
      | none => .error (9, p)
      | some y => .ok (y, q)) := hid (by unfold groupAt; rw [ht, htx]; simp only; cases groupQ t <;> rfl)
    clear HC ht hq htx
    go_wp2_with fail
    refine (rdgrp_any tx A m w1 hts (HGD.out.v.below H01.out)).mono ?_
    rintro e w2 ⟨v, ok, rfl, HSR, hb2⟩
    have HG2 : Hid (w.grownBy w2 (some b)) := hid (grown_below HG1.out hb2)
    have H02 : Hid (Below w0.heap.size w0 w2) := hid (below_by H0.out HG2.out HGD.out.b)
    have HR2 := hid (HR1.out.below hb2)
    clear hb2 HG1 H01 HR1
    cases hp1 : groupQ (bl tx) with
    | none =>
      rw [hp1] at HSR
      obtain ⟨rfl, rfl⟩ := HSR.out
      have HY : Hid (groupAt (bl s) p = .error (9, p)) := hid (by rw [HXP.out, hp1])
      clear HSR hp1 HXP
      go_wp2_with fail
      refine (cstand_any _ _ _ (HGD.out.code H02.out)).mono ?_
      rintro e w4 ⟨v, rfl, hv, hb4⟩
      have HF : Hid (RdC GroupV RowZ w4 b s (A 8) (groupAt (bl s) p) (.slice none 0 0) v) := hid (RdC.mkErr HY.out ⟨rfl, hv.out, rfl, _, HR2.out.below hb4⟩)
      have HG4 : Hid (w.grownBy w4 (some b)) := hid (grown_below HG2.out hb4)
      obtain ⟨fa, rfl⟩ := ErrAt.shape hv.out
      clear hv hb4
      go_wp2
      go_ret2
      exact ⟨_, _, rfl, HF, HG4.out⟩
    | some y =>
      rw [hp1] at HSR
      obtain ⟨rfl, hpv⟩ := HSR.out
      have HPV := hid hpv
      obtain ⟨z, rfl, hz2, hz3⟩ := hpv
      have HY : Hid (groupAt (bl s) p = .ok (y, q)) := hid (by rw [HXP.out, hp1])
      have HF : Hid (RdC GroupV RowZ w2 b s (A 8) (groupAt (bl s) p) (.slice z.la z.ln z.lc) .nilIface) := hid (RdC.mkOk HY.out ⟨rfl, HPV.out, HR2.out⟩)
      clear HSR hp1 HXP hz2 hz3 HPV
      go_wp2
      go_ret2
      exact ⟨_, _, rfl, HF, HG2.out⟩
theorem oneConst {s : ByteArray} {b : Nat} {A : Nat → Addr} {m : Int} {w0 : World} (hG : Ground w0 A m b) (hs : s.size ≤ maxLen) : OneC 137 KV NZ w0 b s (A 8) (constAt (bl s)) :=
  fun p w h0 hr hp => rconst_any s p b _ w hr (hG.code h0) hG.ng hp hs
theorem oneIns {s : ByteArray} {b : Nat} {A : Nat → Addr} {m : Int} {w0 : World} (hG : Ground w0 A m b) (hs : s.size ≤ maxLen) : OneC 143 IV IZ w0 b s (A 8) (insAt (bl s)) :=
  fun p w h0 hr hp => rins_any s p b _ w hr (hG.code h0) hG.ng hp hs
theorem constAt_le {l : List UInt8} {p : Nat} {x : Int × Nat} (h : constAt l p = .ok x) : x.2 ≤ l.length := by
  unfold constAt at h
  cases hn : numAt l p 4 with
  | error e => rw [hn] at h; cases h
  | ok y =>
    rw [hn] at h
    simp only at h
    split at h
    · cases h
    · injection h with h; subst h; have := numAt_ok hn; omega
theorem insAt_le {l : List UInt8} {p : Nat} {x : (Nat × Nat) × Nat} (h : insAt l p = .ok x) : x.2 ≤ l.length ∧ x.1.1 ≤ 13 ∧ x.1.2 < 65536 := by
  unfold insAt at h
  cases hn : numAt l p 1 with
  | error e => rw [hn] at h; cases h
  | ok y =>
    rw [hn] at h
    simp only at h
    split at h
    · cases h
    · rename_i h13
      cases hm : numAt l y.2 2 with
      | error e => rw [hm] at h; cases h
      | ok z =>
        rw [hm] at h
        injection h with h; subst h
        have h1 := numAt_ok hm
        have h2 : z.1 < 256 ^ 2 := h1.2.2.2
        exact ⟨by show z.2 ≤ _; omega, by show y.1 ≤ 13; omega, h2⟩
theorem pickAt_le {l : List UInt8} {p : Nat} {x : (Nd × Nat) × Nat} (h : pickAt l p = .ok x) : x.2 ≤ l.length := by
  unfold pickAt at h
  cases hn : textAt l p with
  | error e => rw [hn] at h; cases h
  | ok y =>
    rw [hn] at h
    simp only at h
    cases hm : pickQ y.1 with
    | none => rw [hm] at h; cases h
    | some z => rw [hm] at h; injection h with h; subst h; exact (textAt_ok hn).2
theorem groupAt_le {l : List UInt8} {p : Nat} {x : List (List UInt8) × Nat} (h : groupAt l p = .ok x) : x.2 ≤ l.length := by
  unfold groupAt at h
  cases hn : textAt l p with
  | error e => rw [hn] at h; cases h
  | ok y =>
    rw [hn] at h
    simp only at h
    cases hm : groupQ y.1 with
    | none => rw [hm] at h; cases h
    | some z => rw [hm] at h; injection h with h; subst h; exact (textAt_ok hn).2
end Go.Proofs.YtkodhpilkaihjaaGreatDoor

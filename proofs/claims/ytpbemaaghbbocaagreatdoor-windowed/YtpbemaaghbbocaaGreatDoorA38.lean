/- Parts. -/
import Derived.Test.YtpbemaaghbbocaaGreatDoorA37
import Derived.Test.YtpbemaaghbbocaaGreatDoorA17
import Derived.Test.YtpbemaaghbbocaaGreatDoorA25
import Derived.Test.YtpbemaaghbbocaaGreatDoorA32
import Derived.Test.YtpbemaaghbbocaaGreatDoorA33
namespace Go.Proofs.YtpbemaaghbbocaaGreatDoor
open Go.RowKit LS
theorem label_bounds {last x : List UInt8} {p : List UInt8 × List UInt8} (h : label last x = some p) : p.1.length ≤ 8 ∧ p.2.length ≤ 8 := by
  unfold label at h
  cases hc : cut 61 x with
  | none => rw [hc] at h; cases h
  | some q =>
    obtain ⟨n, v⟩ := q
    rw [hc] at h
    simp only at h
    split at h
    · rename_i hok
      have := Option.some.inj h; subst this
      simp only [Bool.and_eq_true] at hok
      have h1 := hok.1.1.1
      have h2 := hok.1.1.2
      unfold isName at h1
      unfold isWord at h2
      simp only [Bool.and_eq_true, decide_eq_true_eq] at h1 h2
      exact ⟨by have := h1.2.2; show n.length ≤ 8; omega, by have := h2.2; show v.length ≤ 8; omega⟩
    · cases h
theorem labelsAcc_bounds {last : List UInt8} {acc ps : List (List UInt8 × List UInt8)} {xs : List (List UInt8)} (h : labelsAcc last acc xs = some ps) (ha : ∀ p ∈ acc, p.1.length ≤ 8 ∧ p.2.length ≤ 8) : ps.length = acc.length + xs.length ∧ ∀ p ∈ ps, p.1.length ≤ 8 ∧ p.2.length ≤ 8 := by
  induction xs generalizing last acc with
  | nil => simp only [labelsAcc, Option.some.injEq] at h; subst h; exact ⟨rfl, ha⟩
  | cons x xs ih =>
    unfold labelsAcc at h
    cases hl : label last x with
    | none => rw [hl] at h; cases h
    | some p =>
      rw [hl] at h
      have := ih h (fun q hq => by
        rcases List.mem_append.1 hq with hq | hq
        · exact ha q hq
        · simp at hq; subst hq; exact label_bounds hl)
      exact ⟨by rw [this.1]; simp; omega, this.2⟩
theorem labels_bounds {l : List UInt8} {ps : List (List UInt8 × List UInt8)} (h : labels l = some ps) (hl : l.length ≤ 6000) : ps.length ≤ 6001 ∧ ∀ p ∈ ps, p.1.length ≤ 8 ∧ p.2.length ≤ 8 := by
  unfold labels at h
  split at h
  · have := Option.some.inj h; subst this; simp
  · have := labelsAcc_bounds h (by simp)
    exact ⟨by rw [this.1]; have := split_length 44 l; simp; omega, this.2⟩
def LabOwn (w : World) (lv : Value) (inside : List UInt8) : Prop := ∃ qs : List (ByteArray × ByteArray), w.ownsRow 0 216 2 lv qs.length (flat2 qs) ∧ labels inside = some (qs.map bl2)
theorem LabOwn.below {w w' : World} {lv : Value} {inside : List UInt8} (h : LabOwn w lv inside) (hb : Below w.heap.size w w') : LabOwn w' lv inside := by
  obtain ⟨qs, h1, h2⟩ := h; exact ⟨qs, own_below h1 hb, h2⟩
theorem LabOwn.grown {w w' : World} {lv : Value} {inside : List UInt8} {b : Nat} {e : TypeId} {s : Nat} {v : Value} {n : Nat} {xs : List Value} (h : LabOwn w lv inside) (hg : w.grownBy w' v.ownBlock) (hv : w.ownsRow b e s v n xs) (he : 216 ≠ e) : LabOwn w' lv inside := by
  obtain ⟨qs, h1, h2⟩ := h; exact ⟨qs, h1.kept hg (own_ne h1 hv he), h2⟩
def AllLab (w : World) (rs : List (Value × Value × Value)) (es : List Entry) : Prop := rs.length = es.length ∧ ∀ j (h : j < es.length), ∃ (nm : ByteArray) (la : Option Addr) (ln lc : Nat) (sa : Option Addr) (sc : Nat),
  rs[j]? = some (.string nm, .slice la ln lc, .slice sa (es[j]).count sc) ∧ bl nm = (es[j]).name ∧ isName (es[j]).name = true ∧ (es[j]).inside.length ≤ 6000 ∧ LabOwn w (.slice la ln lc) (es[j]).inside
theorem AllLab.nil (w : World) : AllLab w [] [] := ⟨rfl, fun j h => by simp at h⟩
theorem AllLab.below {w w' : World} {rs : List (Value × Value × Value)} {es : List Entry} (h : AllLab w rs es) (hb : Below w.heap.size w w') : AllLab w' rs es :=
  ⟨h.1, fun j hj => by obtain ⟨nm, la, ln, lc, sa, sc, e1, e2, e3, e4, e5⟩ := h.2 j hj; exact ⟨nm, la, ln, lc, sa, sc, e1, e2, e3, e4, e5.below hb⟩⟩
theorem AllLab.grown {w w' : World} {rs : List (Value × Value × Value)} {es : List Entry} {b : Nat} {e : TypeId} {s : Nat} {v : Value} {n : Nat} {xs : List Value} (h : AllLab w rs es) (hg : w.grownBy w' v.ownBlock) (hv : w.ownsRow b e s v n xs) (he : 216 ≠ e) : AllLab w' rs es :=
  ⟨h.1, fun j hj => by obtain ⟨nm, la, ln, lc, sa, sc, e1, e2, e3, e4, e5⟩ := h.2 j hj; exact ⟨nm, la, ln, lc, sa, sc, e1, e2, e3, e4, e5.grown hg hv he⟩⟩
theorem AllLab.snoc {w : World} {rs : List (Value × Value × Value)} {es : List Entry} (h : AllLab w rs es) (x : Entry) (nm : ByteArray) (la : Option Addr) (ln lc : Nat) (sa : Option Addr) (sc : Nat)
    (h1 : bl nm = x.name) (h2 : isName x.name = true) (h3 : x.inside.length ≤ 6000) (h4 : LabOwn w (.slice la ln lc) x.inside) : AllLab w (rs ++ [(.string nm, .slice la ln lc, .slice sa x.count sc)]) (es ++ [x]) := by
  refine ⟨by simp [h.1], fun j hj => ?_⟩
  by_cases hlt : j < es.length
  · obtain ⟨nm', la', ln', lc', sa', sc', e1, e2⟩ := h.2 j hlt
    refine ⟨nm', la', ln', lc', sa', sc', ?_⟩
    rw [List.getElem?_append_left (by rw [h.1]; exact hlt), List.getElem_append_left hlt]
    exact ⟨e1, e2⟩
  · have hj' : j = es.length := by simp at hj; omega
    subst hj'
    refine ⟨nm, la, ln, lc, sa, sc, ?_⟩
    rw [List.getElem?_append_right (by rw [h.1]; exact Nat.le_refl _), h.1]
    simp [h1, h2, h3, h4]
def AllSam (w : World) (rs : List (Value × Value × Value)) (es : List Entry) (P : List (List UInt8)) : Prop := ∀ j (h : j < es.length), ∃ (x y : Value) (sa : Option Addr) (sc : Nat), rs[j]? = some (x, y, .slice sa (es[j]).count sc) ∧ w.ownsRow 0 220 2 (.slice sa (es[j]).count sc) (es[j]).count (flatP (sams1 (P.getD (es[j]).at_ [])))
theorem AllSam.nil (w : World) (P : List (List UInt8)) : AllSam w [] [] P := fun j h => by simp at h
theorem AllSam.below {w w' : World} {rs : List (Value × Value × Value)} {es : List Entry} {P : List (List UInt8)} (h : AllSam w rs es P) (hb : Below w.heap.size w w') : AllSam w' rs es P := fun j hj => by
  obtain ⟨x, y, sa, sc, e1, e2⟩ := h j hj; exact ⟨x, y, sa, sc, e1, own_below e2 hb⟩
theorem AllSam.grown {w w' : World} {rs : List (Value × Value × Value)} {es : List Entry} {P : List (List UInt8)} {b : Nat} {e : TypeId} {s : Nat} {v : Value} {n : Nat} {xs : List Value} (h : AllSam w rs es P) (hg : w.grownBy w' v.ownBlock) (hv : w.ownsRow b e s v n xs) (he : 220 ≠ e) : AllSam w' rs es P := fun j hj => by
  obtain ⟨x, y, sa, sc, e1, e2⟩ := h j hj; exact ⟨x, y, sa, sc, e1, e2.kept hg (own_ne e2 hv he)⟩
theorem AllSam.snoc {w : World} {rs : List (Value × Value × Value)} {es : List Entry} {P : List (List UInt8)} (hl : rs.length = es.length) (h : AllSam w rs es P) (z : Entry) (x y : Value) (sa : Option Addr) (sc : Nat)
    (h1 : w.ownsRow 0 220 2 (.slice sa z.count sc) z.count (flatP (sams1 (P.getD z.at_ [])))) : AllSam w (rs ++ [(x, y, .slice sa z.count sc)]) (es ++ [z]) P := fun j hj => by
  by_cases hlt : j < es.length
  · obtain ⟨x', y', sa', sc', e1, e2⟩ := h j hlt
    refine ⟨x', y', sa', sc', ?_⟩
    rw [List.getElem?_append_left (by rw [hl]; exact hlt), List.getElem_append_left hlt]
    exact ⟨e1, e2⟩
  · have hj' : j = es.length := by simp at hj; omega
    subst hj'
    refine ⟨x, y, sa, sc, ?_⟩
    rw [List.getElem?_append_right (by rw [hl]; exact Nat.le_refl _), hl]
    simp only [Nat.sub_self, List.getElem?_cons_zero, List.getElem_append_right (Nat.le_refl _), List.getElem_cons_zero]
    exact ⟨trivial, h1⟩
def LoadedV (w : World) (v : Value) (l : List UInt8) : Prop := ∃ (es : List Entry) (rs : List (Value × Value × Value)), linesAcc 0 [] (split 10 l) = .inr es ∧ dupFrom [] es = none ∧ es.length ≤ 30 ∧ w.ownsRow 0 122 3 v es.length (flat3 rs) ∧ AllLab w rs es ∧ AllSam w rs es (split 10 l)
theorem LoadedV.below {w w' : World} {v : Value} {l : List UInt8} (h : LoadedV w v l) (hb : Below w.heap.size w w') : LoadedV w' v l := by
  obtain ⟨es, rs, h1, h2, h3, h4, h5, h6⟩ := h; exact ⟨es, rs, h1, h2, h3, own_below h4 hb, h5.below hb, h6.below hb⟩
def serE (P : List (List UInt8)) (e : Entry) : Ser := ⟨e.name, (labels e.inside).getD [], sams1 (P.getD e.at_ [])⟩
def storeS (l : List UInt8) : List Ser := match linesAcc 0 [] (split 10 l) with
  | .inr es => es.map (serE (split 10 l))
  | .inl _ => []
theorem flatP_len (l : List (Int × Int)) : (flatP l).length = l.length * 2 := by
  induction l with
  | nil => rfl
  | cons a l ih => simp only [flatP, List.length_cons, ih]; omega
theorem sams1_ok (l : List UInt8) : ∀ x ∈ sams1 l, smOk x := by
  intro x hx
  unfold sams1 at hx
  split at hx
  · rename_i b _
    cases hd : l.drop (b + 1) with
    | nil => rw [hd] at hx; cases hx
    | cons c t =>
      rw [hd] at hx
      obtain ⟨y, _, rfl⟩ := List.mem_map.1 hx
      exact smV_ok y
  · cases hx
theorem choose_list {α : Type} (Q : Nat → α → Prop) : ∀ n : Nat, (∀ j, j < n → ∃ z, Q j z) → ∃ zs : List α, zs.length = n ∧ ∀ j (h : j < zs.length), Q j zs[j]
  | 0, _ => ⟨[], rfl, fun j h => absurd h (Nat.not_lt_zero _)⟩
  | n + 1, h => by
    obtain ⟨zs, h1, h2⟩ := choose_list Q n (fun j hj => h j (by omega))
    obtain ⟨z, hz⟩ := h n (by omega)
    refine ⟨zs ++ [z], by simp [h1], fun j hj => ?_⟩
    by_cases hlt : j < zs.length
    · rw [List.getElem_append_left hlt]; exact h2 j hlt
    · have hj' : j = zs.length := by simp at hj; omega
      subst hj'
      rw [List.getElem_append_right (Nat.le_refl _)]
      simp only [Nat.sub_self, List.getElem_cons_zero]
      rw [h1]; exact hz
theorem flatSr_of (zs : List SZ) (rs : List (Value × Value × Value)) (hl : rs.length = zs.length) (h : ∀ j (hj : j < zs.length), rs[j]? = some (.string zs[j].1, zs[j].2.1, zs[j].2.2.1)) : flatSr zs = flat3 rs := by
  induction zs generalizing rs with
  | nil => cases rs with
    | nil => rfl
    | cons _ _ => simp at hl
  | cons z zs ih =>
    cases rs with
    | nil => simp at hl
    | cons r rs =>
      have h0 := h 0 (by simp)
      simp only [List.getElem?_cons_zero, List.getElem_cons_zero, Option.some.injEq] at h0
      subst h0
      rw [flatSr, flat3, ih rs (by simpa using hl) (fun j hj => by have := h (j + 1) (by simp; omega); simpa using this)]
theorem dup_pair : ∀ (rest seen : List Entry), dupFrom seen rest = none → (rest.Pairwise fun a b => keyOfE a ≠ keyOfE b) ∧ ∀ e ∈ rest, ∀ s ∈ seen, keyOfE s ≠ keyOfE e
  | [], _, _ => ⟨List.Pairwise.nil, fun _ h => by cases h⟩
  | e :: rest, seen, h => by
    unfold dupFrom at h
    split at h
    · cases h
    · rename_i hn
      obtain ⟨h1, h2⟩ := dup_pair rest (seen ++ [e]) h
      refine ⟨List.pairwise_cons.2 ⟨fun b hb => h2 b hb e (by simp), h1⟩, fun f hf s hs => ?_⟩
      rcases List.mem_cons.1 hf with rfl | hf
      · intro he
        refine hn ?_
        rw [List.contains_iff_mem, ← he]
        exact List.mem_map.2 ⟨s, hs, rfl⟩
      · exact h2 f hf s (List.mem_append_left _ hs)
theorem wrt_back {l : List UInt8} {ps : List Lab} (h : labels l = some ps) : wrt ps = l := by
  have := written_back h
  rwa [writtenTo_wrt ps _ (Nat.le_refl _), List.take_length] at this
theorem LoadedV.sto {w : World} {v : Value} {l : List UInt8} (hll : l.length ≤ 6000) (h : LoadedV w v l) : ∃ ss : List SZ, StoV w v ss ∧ plainS ss = storeS l ∧ Dst (storeS l) ∧ ss.length ≤ 30 := by
  obtain ⟨es, rs, h1, h2, h3, h4, h5, h6⟩ := h
  have h7 : ∀ j (hj : j < es.length), (es[j]).count ≤ 6001 := fun j hj => (linesAcc_bounds h1 (by simp) (fun p hp => by
    obtain ⟨i, hi, rfl⟩ := List.mem_iff_getElem.1 hp
    have := split_getD_le 10 l i hi
    rw [List.getD_eq_getElem?_getD, List.getElem?_eq_getElem hi, Option.getD_some] at this
    omega)).2 _ (List.getElem_mem hj)
  have hch := choose_list (fun j (z : SZ) => ∃ hj : j < es.length, rs[j]? = some (.string z.1, z.2.1, z.2.2.1) ∧ z.2.2.2 = serE (split 10 l) es[j] ∧ SerOk w z) es.length (fun j hj => by
    obtain ⟨nm, la, ln, lc, sa, sc, e1, e2, e3, e4, qs, e5, e6⟩ := h5.2 j hj
    obtain ⟨x, y, sa', sc', d1, d2⟩ := h6 j hj
    rw [e1] at d1
    injection d1 with d1
    injection d1 with _ d1
    injection d1 with _ d1
    injection d1 with d1 _ d3
    subst d1 d3
    have hbd := labels_bounds e6 e4
    have hcl := d2.1
    rw [flatP_len] at hcl
    have hcnt : (sams1 ((split 10 l).getD (es[j]).at_ [])).length = (es[j]).count := by omega
    refine ⟨(nm, .slice la ln lc, .slice sa (es[j]).count sc, serE (split 10 l) es[j]), hj, e1, rfl, e2, ⟨qs, e5, ?_, ?_, fun q hq => ?_⟩, ?_, ?_, sams1_ok _⟩
    · show qs.map bl2 = (labels (es[j]).inside).getD []
      rw [e6]; rfl
    · have := hbd.1; rwa [List.length_map] at this
    · have := hbd.2 (bl2 q) (List.mem_map.2 ⟨q, hq, rfl⟩)
      have g1 : q.1.size ≤ 8 := by rw [← bl_length]; exact this.1
      have g2 : q.2.size ≤ 8 := by rw [← bl_length]; exact this.2
      exact ⟨by omega, by omega⟩
    · show w.ownsRow 0 220 2 (.slice sa (es[j]).count sc) (sams1 ((split 10 l).getD (es[j]).at_ [])).length (flatP (sams1 ((split 10 l).getD (es[j]).at_ [])))
      rw [hcnt]; exact d2
    · show (sams1 ((split 10 l).getD (es[j]).at_ [])).length ≤ 6001
      rw [hcnt]
      exact h7 j hj)
  obtain ⟨zs, hz1, hz2⟩ := hch
  have hst : storeS l = es.map (serE (split 10 l)) := by unfold storeS; rw [h1]
  refine ⟨zs, ⟨?_, by omega, fun z hz => ?_⟩, ?_, ?_, by omega⟩
  · have := flatSr_of zs rs (by rw [h5.1, hz1]) (fun j hj => (hz2 j hj).2.1)
    rw [this, hz1]; exact h4
  · obtain ⟨j, hj, rfl⟩ := List.mem_iff_getElem.1 hz
    exact (hz2 j hj).2.2.2
  · rw [hst]
    unfold plainS
    refine List.ext_getElem (by rw [List.length_map, List.length_map, hz1]) (fun j h1' h2' => ?_)
    rw [List.getElem_map, List.getElem_map]
    exact (hz2 j (by simpa using h1')).2.2.1
  · rw [hst]
    unfold Dst
    rw [List.pairwise_map]
    refine List.Pairwise.imp_of_mem ?_ (dup_pair es [] h2).1
    intro a b ha hb hne hh
    obtain ⟨i, hi, rfl⟩ := List.mem_iff_getElem.1 ha
    obtain ⟨k, hk, rfl⟩ := List.mem_iff_getElem.1 hb
    obtain ⟨_, _, _, _, _, _, _, _, n1, _, q1, _, l1⟩ := h5.2 i hi
    obtain ⟨_, _, _, _, _, _, _, _, n2, _, q2, _, l2⟩ := h5.2 k hk
    refine hne ((key_iff n1 n2).2 ⟨hh.1, ?_⟩)
    have hw := hh.2
    unfold serE at hw
    simp only [l1, l2, Option.getD_some] at hw
    rw [wrt_back l1, wrt_back l2] at hw
    exact hw
def joinN : List (List UInt8) → List UInt8
  | [] => []
  | [a] => a
  | a :: b :: l => a ++ 10 :: joinN (b :: l)
def lineAt (st : List Ser) (t : Tr) (tm : Int) : List UInt8 := answeredV tm (sayT st tm t)
def evalQ (q s : List UInt8) (f l st : Int) : List UInt8 × Nat × Nat := match readQ q with
  | .error x => ([], x.1, x.2)
  | .ok t => if (loadRes s).1 ≠ 0 then ([], (loadRes s).1, (loadRes s).2) else match timesV f l st with
    | none => ([], 8, 0)
    | some ts => (joinN (ts.map (lineAt (storeS s) t)), 0, 0)
set_option maxRecDepth 100000 in
set_option maxHeartbeats 2000000 in
theorem newg_any (w : World) : Calls Tryz.prog 85 #[] w fun e w' => e = .returned (.pointer (some ⟨w.heap.size + 1, 0, none⟩)) ∧ Hid (MapX w' w.heap.size) ∧ Hid (BAt w' (w.heap.size + 1) [.map (some w.heap.size)] 250) ∧ w'.heap.size = w.heap.size + 2 ∧ Below w.heap.size w w' := by
  have hmm := @run_makeMap Tryz.prog
  go_enter Tryz.func85, Tryz.ntmps85
  go_wp2
  go_ret
  have h1 : Below w.heap.size w (w.alloc (.map #[] 0)) := (Below.refl _ _).alloc (Nat.le_refl _) _
  refine ⟨rfl, hid ⟨#[], 0, (((Below.refl _ _).alloc (Nat.le_refl _) _).block _ (by simp)).trans (Go.Deep.blk_alloc_new _ _)⟩, hid ?_, by simp, h1.alloc (by simp) _⟩
  have := Go.Deep.blk_alloc_new (w.alloc (.map #[] 0)) (.cells #[.map (some w.heap.size)] 250)
  rw [Go.Deep.nblk_alloc] at this
  exact this
theorem MapX.below {w w' : World} {x : Nat} (h : MapX w x) (hb : Below w.heap.size w w') : MapX w' x := by
  obtain ⟨es, cl, hx⟩ := h
  exact ⟨es, cl, (hb.block x (Array.getElem?_eq_some_iff.1 hx).1).trans hx⟩
theorem MapX.grown {w w' : World} {x : Nat} {r : Option Nat} (h : MapX w x) (hg : w.grownBy w' r) (hn : some x ≠ r) : MapX w' x := by
  obtain ⟨es, cl, hx⟩ := h
  exact ⟨es, cl, (hg.block x (Array.getElem?_eq_some_iff.1 hx).1 hn).trans hx⟩
theorem BAt.set1 {w : World} {a : Nat} {p q r x : Value} {t : TypeId} (h : BAt w a [p, q, r] t) : BAt (w.setCell ⟨a, 1, none⟩ x) a [p, x, r] t := by
  unfold BAt at h
  unfold BAt
  simp only [World.setCell, Array.getElem?_modify, h, if_true, Option.map_some]; rfl
theorem joinN_inter : ∀ l : List (List UInt8), Lib.join l [10] = joinN l
  | [] => rfl
  | [a] => by simp [Lib.join, List.intercalate, joinN]
  | a :: b :: l => by
    have ih := joinN_inter (b :: l)
    rw [joinN, ← ih]
    simp [Lib.join, List.intercalate]
theorem joinN_len {n : Nat} : ∀ l : List (List UInt8), (∀ x ∈ l, x.length ≤ n) → (joinN l).length ≤ l.length * (n + 1)
  | [], _ => Nat.zero_le _
  | [a], h => by have := h a (by simp); simp only [joinN, List.length_cons, List.length_nil]; omega
  | a :: b :: l, h => by
    have ih := joinN_len (b :: l) (fun x hx => h x (List.mem_cons_of_mem _ hx))
    have ha := h a (by simp)
    have e : (joinN (a :: b :: l)).length = a.length + ((joinN (b :: l)).length + 1) := by rw [joinN, List.length_append, List.length_cons]
    rw [e, List.length_cons, Nat.succ_mul]
    omega
theorem join_lines {w : World} {v : Value} {B : Nat} (bs : List ByteArray) (h : w.ownsRow B 9 1 v bs.length (flatS bs)) (hl : bs.length ≤ 50) (hs : ∀ b ∈ bs, b.size ≤ 40000000000) :
    Calls Tryz.prog 82 #[v, .string ⟨#[10]⟩] w fun e w' => ∃ s : ByteArray, e = .returned (.string s) ∧ Hid (bl s = joinN (bs.map bl)) ∧ Below w.heap.size w w' := by
  by_cases hz : bs.length = 0
  · obtain ⟨la, lc, rfl⟩ := own_shape h
    rw [hz]
    refine (Tryz.strings_Join_none la lc ⟨#[10]⟩ w).mono ?_
    rintro e w' ⟨rfl, rfl⟩
    have : bs = [] := List.eq_nil_of_length_eq_zero hz
    subst this
    exact ⟨_, rfl, hid rfl, Below.refl _ _⟩
  · obtain ⟨g, lc, rfl⟩ := own_some h (by omega)
    have hj : Lib.join (bs.map (·.data.toList)) [10] = joinN (bs.map bl) := joinN_inter _
    have hcm := joinN_len (n := 40000000000) (bs.map bl) (fun x hx => by obtain ⟨b, hb, rfl⟩ := List.mem_map.1 hx; rw [bl_length]; exact hs b hb)
    rw [List.length_map] at hcm
    have hcm2 : (joinN (bs.map bl)).length ≤ 140737488355328 := by omega
    have hcap : bs.length ≤ lc := by
      rcases h.2 with ⟨e, _⟩ | ⟨g', cap, cur, e, _, _, hc, _⟩
      · cases e
      · injection e with _ _ e; subst e; exact hc
    rw [← hj] at hcm2
    refine (Tryz.strings_Join g 0 lc bs ⟨#[10]⟩ w ?_ (own_lt h) (by omega) hcap hcm2).mono ?_
    · intro j x hj
      rw [Nat.zero_add]
      exact own_cell h j _ (by show (bs.map Value.string)[j]? = _; rw [List.getElem?_map, hj]; rfl)
    · rintro e w' ⟨rfl, hb⟩
      exact ⟨_, rfl, hid (by show bl (ByteArray.mk (Lib.join (bs.map (·.data.toList)) [10]).toArray) = _; rw [bl_mk, hj]), hb⟩
set_option linter.unusedSimpArgs false in
set_option maxRecDepth 100000 in
set_option maxHeartbeats 8000000 in
theorem answer_any (t : Tr) (ts : List Int) (ss : List Srs) (pv sv tv : Value) (w : World) (hts : ts.length ≤ 50) (htr : ∀ t ∈ ts, -1000000 ≤ t ∧ t ≤ 1000000) (hrow : w.ownsRow 0 3 1 tv ts.length (ts.map (Value.int .i64))) (hP : PartV w t pv) (hS : StoP w sv ss)
    (hsay : ∀ x mb gb tm, -1000000 ≤ tm → tm ≤ 1000000 → SayCG x mb gb sv ss tm t) (hok : ∀ tm, VOk 30 (sayT (ss.map Srs.ser) tm t)) (hp : PowTab w) (hB : 20 ≤ w.heap.size) :
    Calls Tryz.prog 41 #[pv, sv, tv] w fun e w' => ∃ r : ByteArray, e = .returned (.string r) ∧ Hid (bl r = joinN (ts.map (lineAt (ss.map Srs.ser) t))) ∧ Below w.heap.size w w' := by
  obtain ⟨i0, hi, hz0, hz1, hz2⟩ := info_parts Tryz.infoStrG
  obtain ⟨ta, tcp, rfl⟩ := own_shape hrow
  obtain ⟨sa, scp, rfl⟩ := own_shape hS.row
  obtain ⟨pty, pu, rfl⟩ := hP.shape
  have HP : Hid (PowTab w) := hp
  have HNG : Hid (20 ≤ w.heap.size) := hB
  have HTR : Hid (∀ t ∈ ts, -1000000 ≤ t ∧ t ≤ 1000000) := htr
  have HROW := hid hrow
  have HPV := hid hP
  have HSV := hid hS
  have HSAY := hid hsay
  have HOK := hid hok
  clear hp hB htr hrow hP hS hsay hok
  go_enter Tryz.func41, Tryz.ntmps41
  go_wp2_with fail
  refine (newg_any w).mono ?_
  rintro e w1 ⟨rfl, HM1, HG1, hs1, hb1⟩
  have HB1 := hid hb1
  have HS1 := hid hs1
  clear hb1 hs1
  go_wp2_with (at_make; refine wpList_make_own _ rfl _ _ 31 rfl (w.heap.size + 3) 9 i0 _ 1 Tryz.underlying31 hi hz0 hz1 _ _ _ ts.length rfl rfl rfl ?b2 ?b3 ?b4 ?_)
  case b2 => rw [hz2]; omega
  case b3 => unfold maxLen; omega
  case b4 => simp; have := HS1.out; omega
  intro w2 hown2 hgrow2
  have hs1 := HS1.out
  have HBm : Hid (BAt w2 w1.heap.size [.slice sa ss.length scp, .int .i64 0, .pointer (some ⟨w.heap.size + 1, 0, none⟩)] 188) := hid (BAt.grown (Go.Deep.blk_alloc_new _ _) hgrow2 (by simp))
  have HBg : Hid (BAt w2 (w.heap.size + 1) [.map (some w.heap.size)] 250) := hid ((HG1.out.alloc _).grown hgrow2 (by simp))
  have HMx : Hid (MapX w2 w.heap.size) := hid ((HM1.out.below ((Below.refl _ _).alloc (Nat.le_refl _) _)).grown hgrow2 (by simp))
  have HB2 : Hid (Below w.heap.size w w2) := hid ((HB1.out.alloc (by omega) _).grown hgrow2 (by simp; omega) (fun q hq => by cases hq))
  have HO2 := hid hown2
  clear hgrow2 hown2
  generalize w1.heap.size = mb at *
  subst hs1
  clear HM1 HG1 HB1 HS1
  go_wp2
  go_loopw [8, 19] (fun v i wr => ∃ (k : Nat) (rs : List ByteArray) (tm : Int), k ≤ ts.length ∧ i = .int .i64 k ∧ rs.length = k ∧ Hid (wr.ownsRow (w.heap.size + 3) 9 1 v rs.length (flatS rs)) ∧ Hid (rs.map bl = (ts.take k).map (lineAt (ss.map Srs.ser) t)) ∧ Hid (∀ r ∈ rs, r.size ≤ 40000000000) ∧ Hid (BAt wr (w.heap.size + 2) [.slice sa ss.length scp, .int .i64 tm, .pointer (some ⟨w.heap.size + 1, 0, none⟩)] 188) ∧ Hid (BAt wr (w.heap.size + 1) [.map (some w.heap.size)] 250) ∧ Hid (MapX wr w.heap.size) ∧ Hid (Below w.heap.size w wr)) (fun _ i _ => ts.length - (intOf i).toNat)
  case atStart => exact ⟨0, [], 0, Nat.zero_le _, rfl, rfl, HO2, hid rfl, hid (fun r hr => by cases hr), HBm, HBg, HMx, HB2⟩
  case round =>
    rename World => wo
    obtain ⟨k, rs, tm, hk, rfl, hrk, HO, HL, HZ, HBm, HBg, HMx, HB⟩ := hrel
    have hwo := HB.out.size
    have hmo := HBm.out.lt
    by_cases hlt : k < ts.length
    · have hg : ∃ g, ta = some ⟨g, 0, none⟩ := by
        obtain ⟨g, cp', h⟩ := own_some HROW.out (by omega)
        injection h with h1; exact ⟨g, h1⟩
      obtain ⟨tg, rfl⟩ := hg
      have d1 := own_cell (own_below HROW.out HB.out) k (.int .i64 ts[k]) (by rw [List.getElem?_map, List.getElem?_eq_getElem hlt]; rfl)
      have HTK : Hid ((ts.take (k + 1)).map (lineAt (ss.map Srs.ser) t) = (ts.take k).map (lineAt (ss.map Srs.ser) t) ++ [lineAt (ss.map Srs.ser) t ts[k]]) := hid (by rw [List.take_succ_eq_append_getElem hlt, List.map_append]; rfl)
      have HTT := hid (HTR.out _ (List.getElem_mem hlt))
      generalize ts[k] = tk at *
      have hkz : (k : Int) < (ts.length : Int) := by omega
      have y1 := HBm.out.cell 1
      have fz1 := HBm.out.frozen 1
      simp only [List.getElem?_cons_zero, List.getElem?_cons_succ] at y1
      go_wp2_with fail
      refine calls_gen fun W hW => ?_
      have HBW : Hid (Below w.heap.size w W) := hid (by rw [hW]; exact HB.out.setCell (by simp) _)
      have hwW := HBW.out.size
      have HMO : Hid (MOk w.heap.size (w.heap.size + 2) (w.heap.size + 1) (.slice sa ss.length scp) ss tk W) := hid ⟨by rw [hW]; exact HBm.out.set1, by rw [hW]; exact HBg.out.other (by simp) _, by
        obtain ⟨es, cl, hx⟩ := HMx.out
        exact ⟨es, cl, by rw [hW]; exact (Go.Deep.blk_setCell_other _ _ _ _ (by simp)).trans hx⟩, HSV.out.below HBW.out⟩
      have HOW : Hid (W.ownsRow (w.heap.size + 3) 9 1 u8 rs.length (flatS rs)) := hid (by rw [hW]; exact ownsRow_setCell_below HO.out (by simp) _)
      have HPW := hid (HPV.out.keepsC (KeepsC.below HBW.out))
      clear hW HB HO HBm HBg HMx y1 fz1 d1
      refine (HSAY.out w.heap.size (w.heap.size + 2) (w.heap.size + 1) tk HTT.out.1 HTT.out.2 (.iface pty pu) W HMO.out HPW.out).mono ?_
      rintro e w5 ⟨v5, rfl, HV5, HM5, HX5⟩
      have HO5 := hid ((KeepsC.belX HX5.out HMO.out.map).own HOW.out)
      have HB5 : Hid (Below w.heap.size w w5) := hid (HBW.out.trans ((HX5.out.mono hwW).below (Nat.le_refl _)))
      have HP5 := hid (HP.out.low HB5.out HNG.out)
      have hw5 := HB5.out.size
      clear HMO HOW HPW HBW HX5
      go_wp2_with fail
      refine (line_any tk (by have := HTT.out; unfold vOk; omega) v5 _ w5 HV5.out (HOK.out tk) HP5.out (by have := HNG.out; omega)).mono ?_
      rintro e w6 ⟨r6, rfl, HR6, hz6, hb6⟩
      have HO6 := hid (own_below HO5.out hb6)
      have HB6 : Hid (Below w.heap.size w w6) := hid (HB5.out.trans (hb6.mono hw5))
      have HM6 := hid (HM5.out.below hb6)
      have HZ6 := hid hz6
      have hw6 := HB6.out.size
      have hm6 := HM6.out.m.lt
      clear hb6 hz6 HO5 HB5 HM5 HP5 HV5
      go_wp2_with (at_builtin; refine wpList_append_own _ rfl (.tmp 25) (.tmp 30) 31 rfl (w.heap.size + 3) 9 i0 (.string ByteArray.empty) 1 16 Tryz.underlying31 hi hz0 hz1 hz2 rfl (by decide) _ _ _ rfl (HO6.out.alloc _) ⟨w6.heap.size, 0, none⟩ 1 1 [.string r6] rfl rfl ?c1 ?c2 ?c3 ?c4 ?c5 ?_)
      case c1 => exact cells_new rfl
      case c2 => intro u hu; simp at hu; subst hu; rfl
      case c3 => unfold maxLen; omega
      case c4 => omega
      case c5 => simp; omega
      intro v7 w7 hown7 hgrow7 _
      have HO7 : Hid (w7.ownsRow (w.heap.size + 3) 9 1 v7 (rs ++ [r6]).length (flatS (rs ++ [r6]))) := hid (by rw [flatS_append, List.length_append, hrk]; exact hown7)
      have hne : ∀ a, a < w.heap.size + 3 → some a ≠ u8.ownBlock := fun a ha e => by have := (HO6.out.lt a e.symm).1; omega
      have HBm7 := hid ((HM6.out.m.alloc _).grown hgrow7 (hne _ (by omega)))
      have HBg7 := hid ((HM6.out.g.alloc _).grown hgrow7 (hne _ (by omega)))
      have HMx7 := hid ((HM6.out.map.below ((Below.refl _ _).alloc (Nat.le_refl _) _)).grown hgrow7 (hne _ (by omega)))
      have HB7 : Hid (Below w.heap.size w w7) := hid ((HB6.out.alloc (by omega) _).grown hgrow7 (by simp; omega) (fun q hq => by have := (HO6.out.lt q hq).1; omega))
      have HL7 : Hid ((rs ++ [r6]).map bl = (ts.take (k + 1)).map (lineAt (ss.map Srs.ser) t)) := hid (by rw [HTK.out, List.map_append, HL.out, List.map_singleton, HR6.out]; rfl)
      have HZ7 : Hid (∀ r ∈ rs ++ [r6], r.size ≤ 40000000000) := hid (fun r hr => by
        rcases List.mem_append.1 hr with h | h
        · exact HZ.out r h
        · rw [List.mem_singleton] at h; subst h; exact HZ6.out)
      clear hgrow7 hown7 hne
      go_wp2
      go_roundw
      case rel => exact ⟨k + 1, rs ++ [r6], tk, by omega, by go_num, by simp; omega, HO7, HL7, HZ7, HBm7, HBg7, HMx7, HB7⟩
      case measure => simp [intOf]; omega
    · obtain rfl : k = ts.length := by omega
      have HL' : Hid (rs.map bl = ts.map (lineAt (ss.map Srs.ser) t)) := hid (by have := HL.out; rwa [List.take_length] at this)
      go_wp2_with fail
      refine (join_lines rs HO.out (by omega) HZ.out).mono ?_
      rintro e w5 ⟨r5, rfl, HR5, hb5⟩
      have HB5 : Hid (Below w.heap.size w w5) := hid (HB.out.trans (hb5.mono hwo))
      clear hb5
      go_wp2
      go_ret
      exact ⟨_, rfl, hid (by rw [HR5.out, HL'.out]), HB5.out⟩
end Go.Proofs.YtpbemaaghbbocaaGreatDoor

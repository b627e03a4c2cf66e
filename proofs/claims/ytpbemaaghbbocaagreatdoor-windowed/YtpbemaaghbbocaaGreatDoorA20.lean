/- Parts. -/
import Derived.Test.YtpbemaaghbbocaaGreatDoorA17
import Derived.Test.YtpbemaaghbbocaaGreatDoorA19
import Derived.Test.YtpbemaaghbbocaaGreatDoorA16
namespace Go.Proofs.YtpbemaaghbbocaaGreatDoor
open Go.RowKit LS
def LabWf (p : Lab) : Prop := isName p.1 = true ∧ isWord p.2 = true
def LabsWf (l : List Lab) : Prop := l.length ≤ 6001 ∧ ∀ p ∈ l, LabWf p
theorem name_no {c : UInt8} (hc : letter c = false) {n : List UInt8} (h : isName n = true) : c ∉ n := by
  intro hm
  unfold isName at h
  rw [Bool.and_eq_true] at h
  have := List.all_eq_true.1 h.1 _ hm
  rw [hc] at this; cases this
theorem word_no {c : UInt8} (hc : (letter c || digit c) = false) {n : List UInt8} (h : isWord n = true) : c ∉ n := by
  intro hm
  unfold isWord at h
  rw [Bool.and_eq_true] at h
  have := List.all_eq_true.1 h.1 _ hm
  rw [hc] at this; cases this
theorem lab1_no44 {p : Lab} (h : LabWf p) : (44 : UInt8) ∉ lab1 p := by
  unfold lab1
  rw [List.mem_append, List.mem_append]
  rintro ((h1 | h1) | h1)
  · exact name_no (by decide) h.1 h1
  · exact absurd h1 (by decide)
  · exact word_no (by decide) h.2 h1
theorem lab1_cut {p : Lab} (h : LabWf p) : cut 61 (lab1 p) = some p := by
  unfold lab1
  rw [List.append_assoc]
  exact cut_mid (name_no (by decide) h.1)
theorem wrt_cons2 (p q : Lab) (l : List Lab) : wrt (p :: q :: l) = lab1 p ++ 44 :: wrt (q :: l) := rfl
theorem wrt_one (p : Lab) : wrt [p] = lab1 p := rfl
theorem split_wrt : ∀ l : List Lab, l ≠ [] → (∀ p ∈ l, LabWf p) → split 44 (wrt l) = l.map lab1
  | [], h, _ => absurd rfl h
  | [p], _, h => by
    have hn := lab1_no44 (h p (by simp))
    have e := split_append 44 (lab1 p) [] hn
    rw [List.append_nil] at e
    rw [wrt_one, e]
    simp [split, pre]
  | p :: q :: l, _, h => by
    have hn := lab1_no44 (h p (by simp))
    rw [wrt_cons2, split_append 44 _ _ hn, split_hit, split_wrt (q :: l) (by simp) (fun x hx => h x (List.mem_cons_of_mem _ hx))]
    simp [pre]
theorem map_lab1_inj : ∀ l m : List Lab, (∀ p ∈ l, LabWf p) → (∀ p ∈ m, LabWf p) → l.map lab1 = m.map lab1 → l = m
  | [], [], _, _, _ => rfl
  | [], _ :: _, _, _, h => by simp at h
  | _ :: _, [], _, _, h => by simp at h
  | p :: l, q :: m, hl, hm, h => by
    rw [List.map_cons, List.map_cons] at h
    injection h with h1 h2
    have e1 := lab1_cut (hl p (by simp))
    rw [h1, lab1_cut (hm q (by simp))] at e1
    rw [Option.some.inj e1, map_lab1_inj l m (fun x hx => hl x (List.mem_cons_of_mem _ hx)) (fun x hx => hm x (List.mem_cons_of_mem _ hx)) h2]
theorem wrt_nil_iff (l : List Lab) : wrt l = [] ↔ l = [] := by
  constructor
  · intro h
    match l, h with
    | [], _ => rfl
    | [p], h => rw [wrt_one] at h; unfold lab1 at h; simp at h
    | p :: q :: l, h => rw [wrt_cons2] at h; simp at h
  · rintro rfl; rfl
theorem wrt_inj {l m : List Lab} (hl : LabsWf l) (hm : LabsWf m) (h : wrt l = wrt m) : l = m := by
  by_cases h0 : l = []
  · subst h0
    exact ((wrt_nil_iff m).1 h.symm).symm
  · have h1 : m ≠ [] := fun e => h0 ((wrt_nil_iff l).1 (by rw [h, e]; rfl))
    have e1 := split_wrt l h0 hl.2
    rw [h, split_wrt m h1 hm.2] at e1
    exact map_lab1_inj l m hl.2 hm.2 e1.symm
theorem lab1_len {p : Lab} (h : LabWf p) : (lab1 p).length ≤ 17 := by
  have h1 := h.1
  have h2 := h.2
  unfold isName at h1
  unfold isWord at h2
  simp only [Bool.and_eq_true, decide_eq_true_eq] at h1 h2
  unfold lab1
  simp only [List.length_append, List.length_singleton]
  omega
theorem wrt_lenG : ∀ l : List Lab, (∀ p ∈ l, LabWf p) → (wrt l).length ≤ 18 * l.length
  | [], _ => by simp [wrt, commas]
  | [p], h => by rw [wrt_one]; have := lab1_len (h p (by simp)); simp; omega
  | p :: q :: l, h => by
    have h1 := lab1_len (h p (by simp))
    have h2 := wrt_lenG (q :: l) (fun x hx => h x (List.mem_cons_of_mem _ hx))
    rw [wrt_cons2, List.length_append, List.length_cons]
    simp only [List.length_cons] at *
    omega
theorem LabsWf.len {l : List Lab} (h : LabsWf l) : (wrt l).length ≤ 108018 := by
  have := wrt_lenG l h.2
  have := h.1
  omega
theorem LabsWf.kept {l : List Lab} (h : LabsWf l) (bs : List (List UInt8)) : LabsWf (keptV l bs) := ⟨Nat.le_trans (List.length_filter_le _ _) h.1, fun p hp => h.2 p (List.mem_filter.1 hp).1⟩
theorem labelsS_wrt : ∀ qs : List (ByteArray × ByteArray), labelsS qs = wrt (qs.map blP)
  | [] => rfl
  | [p] => by
    show labelS p = lab1 (blP p)
    unfold labelS lab1 blP
    simp
  | p :: q :: l => by
    have e : labelsS (p :: q :: l) = labelS p ++ 44 :: labelsS (q :: l) := rfl
    rw [e, labelsS_wrt (q :: l)]
    show labelS p ++ 44 :: wrt ((q :: l).map blP) = lab1 (blP p) ++ 44 :: wrt ((q :: l).map blP)
    congr 1
    unfold labelS lab1 blP
    simp
theorem labelsAcc_wf : ∀ (xs : List (List UInt8)) (last : List UInt8) (acc r : List Lab), labelsAcc last acc xs = some r → (∀ p ∈ acc, LabWf p) → ∀ p ∈ r, LabWf p
  | [], _, _, _, h, ha => by
    rw [labelsAcc] at h
    injection h with h
    subst h
    exact ha
  | x :: xs, last, acc, r, h, ha => by
    rw [labelsAcc] at h
    split at h
    · cases h
    · rename_i p hp
      refine labelsAcc_wf xs p.1 _ r h (fun q hq => ?_)
      rcases List.mem_append.1 hq with hq | hq
      · exact ha q hq
      · rw [List.mem_singleton] at hq
        subst hq
        unfold label at hp
        split at hp
        · cases hp
        · split at hp
          · rename_i hc
            injection hp with hp
            subst hp
            simp only [Bool.and_eq_true] at hc
            exact ⟨hc.1.1.1, hc.1.1.2⟩
          · cases hp
theorem labels_wf {l : List UInt8} {ps : List Lab} (h : labels l = some ps) (hl : ps.length ≤ 6001) : LabsWf ps := by
  refine ⟨hl, ?_⟩
  unfold labels at h
  split at h
  · injection h with h
    subst h
    intro p hp; cases hp
  · exact labelsAcc_wf _ _ _ _ h (by simp)
theorem srt_ext : ∀ (l m : List El), Srt l → Srt m → (∀ z, z ∈ l ↔ z ∈ m) → l = m
  | [], [], _, _, _ => rfl
  | [], b :: m, _, _, h => by have := (h b).2 (by simp); cases this
  | a :: l, [], _, _, h => by have := (h a).1 (by simp); cases this
  | a :: l, b :: m, hl, hm, h => by
    obtain ⟨l1, l2⟩ := List.pairwise_cons.1 hl
    obtain ⟨m1, m2⟩ := List.pairwise_cons.1 hm
    have hab : a = b := by
      rcases List.mem_cons.1 ((h a).1 (by simp)) with e | e
      · exact e
      · rcases List.mem_cons.1 ((h b).2 (by simp)) with e2 | e2
        · exact e2.symm
        · have h1 : Op.bytesLess (wrt b.1) (wrt a.1) = true := m1 a e
          have h2 : Op.bytesLess (wrt a.1) (wrt b.1) = true := l1 b e2
          have := bls_trans _ _ _ h1 h2
          rw [bls_irrefl] at this
          cases this
    subst hab
    have irr : ∀ z, lt1 a z → z ≠ a := fun z hz e => by
      subst e
      unfold lt1 at hz
      rw [bls_irrefl] at hz
      cases hz
    rw [srt_ext l m l2 m2 (fun z => ?_)]
    constructor
    · intro hz
      rcases List.mem_cons.1 ((h z).1 (List.mem_cons_of_mem _ hz)) with e | e
      · exact absurd e (irr z (l1 z hz))
      · exact e
    · intro hz
      rcases List.mem_cons.1 ((h z).2 (List.mem_cons_of_mem _ hz)) with e | e
      · exact absurd e (irr z (m1 z hz))
      · exact e
def DstE (L : List El) : Prop := L.Pairwise fun a b => wrt a.1 ≠ wrt b.1
theorem sorted_placed {L L' : List El} (hd : DstE L) (hp : L'.Perm L) (hs : L'.Pairwise fun a b => Op.bytesLess (wrt b.1) (wrt a.1) = false) : L' = L.foldl placedV [] := by
  obtain ⟨h1, h2, h3⟩ := foldl_placed L [] List.Pairwise.nil hd (by simp)
  have hd' : DstE L' := (List.Perm.pairwise_iff (R := fun (a b : El) => wrt a.1 ≠ wrt b.1) (fun h => Ne.symm h) hp).2 hd
  refine srt_ext _ _ ?_ h1 (fun z => ?_)
  · unfold Srt
    have := hs.and hd'
    refine this.imp (fun {a b} hab => ?_)
    unfold lt1
    cases h : Op.bytesLess (wrt a.1) (wrt b.1) with
    | true => rfl
    | false => exact absurd (bls_tri _ _ h hab.1) hab.2
  · rw [h3, hp.mem_iff]
    simp
theorem placed_same {L M : List El} (hL : DstE L) (hM : DstE M) (h : ∀ z, z ∈ L ↔ z ∈ M) : L.foldl placedV [] = M.foldl placedV [] := by
  obtain ⟨h1, _, h3⟩ := foldl_placed L [] List.Pairwise.nil hL (by simp)
  obtain ⟨k1, _, k3⟩ := foldl_placed M [] List.Pairwise.nil hM (by simp)
  refine srt_ext _ _ h1 k1 (fun z => ?_)
  rw [h3, k3]
  simp [h z]
def TmS (l : List (Int × Int)) : Prop := l.Pairwise fun a b => a.1 < b.1
def cntLe (l : List (Int × Int)) (t : Int) : Nat := l.countP fun x => decide (x.1 ≤ t)
theorem cntLe_zero {l : List (Int × Int)} {t : Int} (h : ∀ x ∈ l, t < x.1) : cntLe l t = 0 := by
  unfold cntLe
  rw [List.countP_eq_zero]
  intro x hx
  have := h x hx
  simp; omega
theorem take_le (t : Int) : ∀ l : List (Int × Int), TmS l → l.take (cntLe l t) = l.filter fun x => decide (x.1 ≤ t)
  | [], _ => rfl
  | a :: l, h => by
    obtain ⟨h1, h2⟩ := List.pairwise_cons.1 h
    by_cases ha : a.1 ≤ t
    · have e : cntLe (a :: l) t = cntLe l t + 1 := List.countP_cons_of_pos (by simpa using ha)
      rw [e, List.take_succ_cons, take_le t l h2, List.filter_cons_of_pos (by simpa using ha)]
    · have hz : ∀ x ∈ a :: l, t < x.1 := fun x hx => by
        rcases List.mem_cons.1 hx with rfl | hx
        · omega
        · have := h1 x hx; omega
      rw [cntLe_zero hz, List.take_zero]
      symm
      rw [List.filter_eq_nil_iff]
      intro x hx
      have := hz x hx
      simp; omega
theorem drop_le (t : Int) : ∀ l : List (Int × Int), TmS l → l.drop (cntLe l t) = l.filter fun x => decide (t < x.1)
  | [], _ => rfl
  | a :: l, h => by
    obtain ⟨h1, h2⟩ := List.pairwise_cons.1 h
    by_cases ha : a.1 ≤ t
    · have e : cntLe (a :: l) t = cntLe l t + 1 := List.countP_cons_of_pos (by simpa using ha)
      rw [e, List.drop_succ_cons, drop_le t l h2, List.filter_cons_of_neg (by simp; omega)]
    · have hz : ∀ x ∈ a :: l, t < x.1 := fun x hx => by
        rcases List.mem_cons.1 hx with rfl | hx
        · omega
        · have := h1 x hx; omega
      rw [cntLe_zero hz, List.drop_zero]
      symm
      rw [List.filter_eq_self]
      intro x hx
      have := hz x hx
      simp; omega
theorem cntLe_mono (l : List (Int × Int)) {s t : Int} (h : s ≤ t) : cntLe l s ≤ cntLe l t := by
  unfold cntLe
  refine List.countP_mono_left (fun x _ hx => ?_)
  simp at hx ⊢; omega
theorem cntLe_le (l : List (Int × Int)) (t : Int) : cntLe l t ≤ l.length := List.countP_le_length
theorem within_row {l : List (Int × Int)} (h : TmS l) {n t : Int} (hn : 0 ≤ n) : (l.take (cntLe l t)).drop (cntLe l (t - n)) = withinV l n t := by
  have e : cntLe l (t - n) = cntLe (l.filter fun x => decide (x.1 ≤ t)) (t - n) := by
    unfold cntLe
    rw [List.countP_filter]
    refine List.countP_congr (fun x _ => ?_)
    simp; omega
  rw [take_le t l h, e, drop_le _ _ (h.filter _), List.filter_filter]
  rfl
theorem getD_range {α : Type} (l : List α) (d : α) : (List.range l.length).map (fun i => l.getD i d) = l := by
  refine List.ext_getElem (by simp) (fun i h1 h2 => ?_)
  simp [h2]
abbrev Grp := List Lab × List Int
def addG (k : List Lab) (v : Int) : List Grp → List Grp
  | [] => [(k, [v])]
  | g :: m => if g.1 = k then (k, g.2 ++ [v]) :: m else g :: addG k v m
def grpV (bs : List (List UInt8)) (l : List El) : List Grp := l.foldl (fun m e => addG (keptV e.1 bs) e.2 m) []
def valsOf (bs : List (List UInt8)) (l : List El) (k : List Lab) : List Int := (l.filter fun f => decide (keptV f.1 bs = k)).map (·.2)
theorem addG_keys (k : List Lab) (v : Int) : ∀ m : List Grp, (addG k v m).map (·.1) = if k ∈ m.map (·.1) then m.map (·.1) else m.map (·.1) ++ [k]
  | [] => by simp [addG]
  | g :: m => by
    rw [addG]
    by_cases h : g.1 = k
    · rw [if_pos h]; simp [h]
    · rw [if_neg h, List.map_cons, addG_keys k v m]
      have hk : (k ∈ (g :: m).map (·.1)) ↔ (k ∈ m.map (·.1)) := by
        rw [List.map_cons, List.mem_cons]
        constructor
        · rintro (e | e)
          · exact absurd e.symm h
          · exact e
        · exact Or.inr
      by_cases hm : k ∈ m.map (·.1)
      · rw [if_pos hm, if_pos (hk.2 hm)]; rfl
      · rw [if_neg hm, if_neg (fun e => hm (hk.1 e))]; rfl
theorem addG_mem (k : List Lab) (v : Int) : ∀ m : List Grp, (m.map (·.1)).Nodup → ∀ g : Grp, g ∈ addG k v m ↔ (g.1 ≠ k ∧ g ∈ m) ∨ (g.1 = k ∧ ((∃ h ∈ m, h.1 = k ∧ g.2 = h.2 ++ [v]) ∨ (k ∉ m.map (·.1) ∧ g.2 = [v])))
  | [], _, g => by
    rw [addG]
    simp only [List.mem_singleton, List.not_mem_nil, and_false, false_or, List.map_nil, not_false_eq_true, true_and, false_and, exists_false]
    constructor
    · rintro rfl; exact ⟨rfl, rfl⟩
    · rintro ⟨h1, h2⟩; exact Prod.ext h1 h2
  | a :: m, hn, g => by
    rw [List.map_cons, List.nodup_cons] at hn
    rw [addG]
    by_cases h : a.1 = k
    · rw [if_pos h]
      have hk : k ∉ m.map (·.1) := by rw [← h]; exact hn.1
      rw [List.mem_cons]
      constructor
      · rintro (rfl | hg)
        · exact Or.inr ⟨rfl, Or.inl ⟨a, by simp, h, rfl⟩⟩
        · refine Or.inl ⟨fun e => hk (List.mem_map.2 ⟨g, hg, e⟩), List.mem_cons_of_mem _ hg⟩
      · rintro (⟨h1, h2⟩ | ⟨h1, (⟨x, h2, h3, h4⟩ | ⟨h2, _⟩)⟩)
        · rcases List.mem_cons.1 h2 with rfl | h2
          · exact absurd h h1
          · exact Or.inr h2
        · rcases List.mem_cons.1 h2 with rfl | h2
          · exact Or.inl (Prod.ext h1 h4)
          · exact absurd (List.mem_map.2 ⟨x, h2, h3⟩) hk
        · exact absurd (by simp [h]) h2
    · rw [if_neg h, List.mem_cons, addG_mem k v m hn.2 g]
      constructor
      · rintro (rfl | ⟨h1, h2⟩ | ⟨h1, (⟨x, h2, h3, h4⟩ | ⟨h2, h3⟩)⟩)
        · exact Or.inl ⟨h, by simp⟩
        · exact Or.inl ⟨h1, List.mem_cons_of_mem _ h2⟩
        · exact Or.inr ⟨h1, Or.inl ⟨x, List.mem_cons_of_mem _ h2, h3, h4⟩⟩
        · refine Or.inr ⟨h1, Or.inr ⟨?_, h3⟩⟩
          rw [List.map_cons, List.mem_cons]
          rintro (e | e)
          · exact h e.symm
          · exact h2 e
      · rintro (⟨h1, h2⟩ | ⟨h1, (⟨x, h2, h3, h4⟩ | ⟨h2, h3⟩)⟩)
        · rcases List.mem_cons.1 h2 with rfl | h2
          · exact Or.inl rfl
          · exact Or.inr (Or.inl ⟨h1, h2⟩)
        · rcases List.mem_cons.1 h2 with rfl | h2
          · exact absurd h3 h
          · exact Or.inr (Or.inr ⟨h1, Or.inl ⟨x, h2, h3, h4⟩⟩)
        · exact Or.inr (Or.inr ⟨h1, Or.inr ⟨fun e => h2 (by rw [List.map_cons]; exact List.mem_cons_of_mem _ e), h3⟩⟩)
theorem grpV_snoc (bs : List (List UInt8)) (l : List El) (e : El) : grpV bs (l ++ [e]) = addG (keptV e.1 bs) e.2 (grpV bs l) := by unfold grpV; rw [List.foldl_append]; rfl
theorem valsOf_snoc (bs : List (List UInt8)) (l : List El) (e : El) (k : List Lab) : valsOf bs (l ++ [e]) k = if keptV e.1 bs = k then valsOf bs l k ++ [e.2] else valsOf bs l k := by
  unfold valsOf
  rw [List.filter_append, List.map_append]
  split
  · rename_i h; rw [List.filter_cons_of_pos (by simpa using h)]; rfl
  · rename_i h; rw [List.filter_cons_of_neg (by simpa using h)]; simp
theorem snoc_ind {α : Type} {P : List α → Prop} (h0 : P []) (h1 : ∀ l a, P l → P (l ++ [a])) (l : List α) : P l := by
  have h : ∀ m : List α, P m.reverse := fun m => by
    induction m with
    | nil => exact h0
    | cons a m ih => rw [List.reverse_cons]; exact h1 _ _ ih
  have := h l.reverse
  rwa [List.reverse_reverse] at this
theorem grpV_spec (bs : List (List UInt8)) (l : List El) : ((grpV bs l).map (·.1)).Nodup ∧ (∀ k, k ∈ (grpV bs l).map (·.1) ↔ ∃ e ∈ l, keptV e.1 bs = k) ∧ (∀ g : Grp, g ∈ grpV bs l ↔ (∃ e ∈ l, keptV e.1 bs = g.1) ∧ g.2 = valsOf bs l g.1) := by
  induction l using snoc_ind with
  | h0 => exact ⟨List.nodup_nil, by simp [grpV], by simp [grpV]⟩
  | h1 l e ih =>
    obtain ⟨h1, h2, h3⟩ := ih
    rw [grpV_snoc]
    refine ⟨?_, fun k => ?_, fun g => ?_⟩
    · rw [addG_keys]
      split
      · exact h1
      · rename_i hn
        rw [List.nodup_append]
        exact ⟨h1, by simp, fun a ha b hb => by rw [List.mem_singleton] at hb; subst hb; intro e'; subst e'; exact hn ha⟩
    · rw [addG_keys]
      split
      · rename_i hm
        rw [h2]
        constructor
        · rintro ⟨x, hx, e'⟩; exact ⟨x, List.mem_append_left _ hx, e'⟩
        · rintro ⟨x, hx, e'⟩
          rcases List.mem_append.1 hx with hx | hx
          · exact ⟨x, hx, e'⟩
          · rw [List.mem_singleton] at hx; subst hx; subst e'; exact (h2 _).1 hm
      · rw [List.mem_append, h2, List.mem_singleton]
        constructor
        · rintro (⟨x, hx, e'⟩ | rfl)
          · exact ⟨x, List.mem_append_left _ hx, e'⟩
          · exact ⟨e, by simp, rfl⟩
        · rintro ⟨x, hx, e'⟩
          rcases List.mem_append.1 hx with hx | hx
          · exact Or.inl ⟨x, hx, e'⟩
          · rw [List.mem_singleton] at hx; subst hx; exact Or.inr e'.symm
    · rw [addG_mem _ _ _ h1 g, valsOf_snoc]
      by_cases hk : g.1 = keptV e.1 bs
      · rw [if_pos hk.symm]
        constructor
        · rintro (⟨a1, _⟩ | ⟨_, (⟨x, a2, a3, a4⟩ | ⟨a2, a3⟩)⟩)
          · exact absurd hk a1
          · refine ⟨⟨e, by simp, hk.symm⟩, ?_⟩
            rw [a4, ((h3 x).1 a2).2, a3, hk]
          · refine ⟨⟨e, by simp, hk.symm⟩, ?_⟩
            rw [a3]
            have : valsOf bs l g.1 = [] := by
              unfold valsOf
              rw [List.map_eq_nil_iff, List.filter_eq_nil_iff]
              intro f hf hc
              exact a2 ((h2 _).2 ⟨f, hf, by rw [← hk]; simpa using hc⟩)
            rw [this]; rfl
        · rintro ⟨_, a2⟩
          refine Or.inr ⟨hk, ?_⟩
          by_cases hm : keptV e.1 bs ∈ (grpV bs l).map (·.1)
          · obtain ⟨x, hx, ex⟩ := List.mem_map.1 hm
            refine Or.inl ⟨x, hx, ex, ?_⟩
            rw [a2, ((h3 x).1 hx).2, ex, hk]
          · refine Or.inr ⟨hm, ?_⟩
            have : valsOf bs l g.1 = [] := by
              unfold valsOf
              rw [List.map_eq_nil_iff, List.filter_eq_nil_iff]
              intro f hf hc
              exact hm ((h2 _).2 ⟨f, hf, by rw [← hk]; simpa using hc⟩)
            rw [a2, this]; rfl
      · rw [if_neg (fun x => hk x.symm)]
        constructor
        · rintro (⟨_, a2⟩ | ⟨a1, _⟩)
          · obtain ⟨⟨x, hx, ex⟩, a3⟩ := (h3 g).1 a2
            exact ⟨⟨x, List.mem_append_left _ hx, ex⟩, a3⟩
          · exact absurd a1 hk
        · rintro ⟨⟨x, hx, ex⟩, a2⟩
          refine Or.inl ⟨hk, (h3 g).2 ⟨?_, a2⟩⟩
          rcases List.mem_append.1 hx with hx | hx
          · exact ⟨x, hx, ex⟩
          · rw [List.mem_singleton] at hx; subst hx; exact absurd ex.symm hk
def grpEl (op : Nat) (g : Grp) : El := (g.1, cutV (toldV op g.2))
theorem groupAcc_mem (op : Nat) (bs : List (List UInt8)) (all : List El) (hw : ∀ e ∈ all, LabsWf e.1) : ∀ (l pre : List El), (∀ e ∈ l, e ∈ all) → (∀ e ∈ pre, e ∈ all) → ∀ x : El, x ∈ groupAcc op bs all pre l ↔ ∃ e ∈ l, (∀ f ∈ pre, keptV f.1 bs ≠ keptV e.1 bs) ∧ x = grpEl op (keptV e.1 bs, valsOf bs all (keptV e.1 bs))
  | [], pre, _, _, x => by simp [groupAcc]
  | e :: l, pre, hl, hp, x => by
    have ih := groupAcc_mem op bs all hw l (pre ++ [e]) (fun f hf => hl f (List.mem_cons_of_mem _ hf)) (fun f hf => by
      rcases List.mem_append.1 hf with hf | hf
      · exact hp f hf
      · rw [List.mem_singleton] at hf; subst hf; exact hl f (by simp)) x
    have he := hl e (by simp)
    have hkey : ∀ f ∈ all, (wrt (keptV f.1 bs) = wrt (keptV e.1 bs)) ↔ keptV f.1 bs = keptV e.1 bs := fun f hf => ⟨fun h => wrt_inj ((hw f hf).kept bs) ((hw e he).kept bs) h, fun h => by rw [h]⟩
    have hval : (all.filter fun f => decide (wrt (keptV f.1 bs) = wrt (keptV e.1 bs))).map (·.2) = valsOf bs all (keptV e.1 bs) := by
      unfold valsOf
      congr 1
      refine List.filter_congr (fun f hf => ?_)
      rw [decide_eq_decide]
      exact hkey f hf
    have hany : pre.any (fun f => decide (wrt (keptV f.1 bs) = wrt (keptV e.1 bs))) = true ↔ ∃ f ∈ pre, keptV f.1 bs = keptV e.1 bs := by
      rw [List.any_eq_true]
      constructor
      · rintro ⟨f, hf, h⟩; exact ⟨f, hf, (hkey f (hp f hf)).1 (by simpa using h)⟩
      · rintro ⟨f, hf, h⟩; exact ⟨f, hf, by simpa using (hkey f (hp f hf)).2 h⟩
    rw [groupAcc, List.mem_append, ih, hval]
    constructor
    · rintro (h | ⟨f, hf, h1, h2⟩)
      · split at h
        · cases h
        · rename_i hn
          rw [List.mem_singleton] at h
          refine ⟨e, by simp, fun f hf hc => hn (hany.2 ⟨f, hf, hc⟩), h⟩
      · exact ⟨f, List.mem_cons_of_mem _ hf, fun z hz => h1 z (List.mem_append_left _ hz), h2⟩
    · rintro ⟨f, hf, h1, h2⟩
      by_cases hc : keptV e.1 bs = keptV f.1 bs
      · left
        rw [if_neg (fun ha => by obtain ⟨z, hz, ez⟩ := hany.1 ha; exact h1 z hz (ez.trans hc)), List.mem_singleton]
        rw [h2, ← hc]; rfl
      · right
        rcases List.mem_cons.1 hf with rfl | hf
        · exact absurd rfl hc
        · refine ⟨f, hf, fun z hz => ?_, h2⟩
          rcases List.mem_append.1 hz with hz | hz
          · exact h1 z hz
          · rw [List.mem_singleton] at hz; subst hz; exact hc
theorem groups_sorted (op : Nat) (bs : List (List UInt8)) (l : List El) (hw : ∀ e ∈ l, LabsWf e.1) (L : List El) (hL : L.Perm ((grpV bs l).map (grpEl op))) : DstE L ∧ L.foldl placedV [] = groupV op bs l := by
  obtain ⟨s1, s2, s3⟩ := grpV_spec bs l
  have hd0 : DstE ((grpV bs l).map (grpEl op)) := by
    unfold DstE
    rw [List.pairwise_map]
    have hnd : (grpV bs l).Pairwise fun a b => a.1 ≠ b.1 := by
      have := s1
      unfold List.Nodup at this
      rwa [List.pairwise_map] at this
    refine List.Pairwise.imp_of_mem ?_ hnd
    intro a b ha hb hab he
    obtain ⟨⟨x, hx, ex⟩, _⟩ := (s3 a).1 ha
    obtain ⟨⟨y, hy, ey⟩, _⟩ := (s3 b).1 hb
    refine hab (wrt_inj ?_ ?_ he)
    · show LabsWf a.1
      rw [← ex]; exact (hw x hx).kept bs
    · show LabsWf b.1
      rw [← ey]; exact (hw y hy).kept bs
  have hd : DstE L := (List.Perm.pairwise_iff (R := fun (a b : El) => wrt a.1 ≠ wrt b.1) (fun h => Ne.symm h) hL).2 hd0
  refine ⟨hd, ?_⟩
  unfold groupV
  refine placed_same hd (groupAcc_ok op bs l l []).1 (fun z => ?_)
  rw [hL.mem_iff, groupAcc_mem op bs l hw l [] (fun _ h => h) (by simp) z, List.mem_map]
  constructor
  · rintro ⟨g, hg, rfl⟩
    obtain ⟨⟨x, hx, ex⟩, h2⟩ := (s3 g).1 hg
    refine ⟨x, hx, by simp, ?_⟩
    unfold grpEl
    rw [ex, ← h2]
  · rintro ⟨e, he, _, h2⟩
    exact ⟨(keptV e.1 bs, valsOf bs l (keptV e.1 bs)), (s3 _).2 ⟨⟨e, he, rfl⟩, rfl⟩, h2.symm⟩
theorem mul_bound (a b : Int) (a1 : -1000000000 ≤ a) (a2 : a ≤ 1000000000) (b1 : -1000000000 ≤ b) (b2 : b ≤ 1000000000) : (a * b).natAbs ≤ 1000000000000000000 := by
  rw [Int.natAbs_mul]
  have h1 : a.natAbs ≤ 1000000000 := by omega
  have h2 : b.natAbs ≤ 1000000000 := by omega
  exact Nat.mul_le_mul h1 h2
theorem twoV_0 (a b : Int) : twoV 0 a b = cutV (a + b) := by simp [twoV]
theorem twoV_1 (a b : Int) : twoV 1 a b = cutV (a - b) := by simp [twoV]
theorem twoV_2 (a b : Int) : twoV 2 a b = cutV (a * b) := by simp [twoV]
theorem twoV_30 (a : Int) : twoV 3 a 0 = 0 := by simp [twoV]
theorem twoV_3 (a b : Int) (h : b ≠ 0) : twoV 3 a b = a.tdiv b := by simp [twoV, h]
def vOk (n : Int) : Prop := -1000000000 ≤ n ∧ n ≤ 1000000000
theorem maxL_snoc (m : Int) (l : List Int) (x : Int) : maxL m (l ++ [x]) = if maxL m l < x then x else maxL m l := by
  induction l generalizing m with
  | nil => rfl
  | cons a l ih => exact ih _
theorem minL_snoc (m : Int) (l : List Int) (x : Int) : minL m (l ++ [x]) = if x < minL m l then x else minL m l := by
  induction l generalizing m with
  | nil => rfl
  | cons a l ih => exact ih _
theorem cutV_ok (n : Int) : vOk (cutV n) := by unfold vOk cutV; split <;> (try split) <;> omega
theorem twoV_ok (op : Nat) (a b : Int) (ha : vOk a) : vOk (twoV op a b) := by
  unfold twoV
  split
  · exact cutV_ok _
  split
  · exact cutV_ok _
  split
  · exact cutV_ok _
  split
  · unfold vOk; omega
  · unfold vOk at *
    have h1 : (a.tdiv b).natAbs ≤ a.natAbs := by rw [Int.natAbs_tdiv]; exact Nat.div_le_self _ _
    omega
def timesR (l s : Int) : Nat → Int → List Int → Option (List Int)
  | 0, _, _ => none
  | n + 1, t, acc => if t ≤ l then (if acc.length = 50 then none else timesR l s n (t + s) (acc ++ [t])) else some acc
def badT (f l s : Int) : Prop := f < -1000000 ∨ 1000000 < f ∨ l < -1000000 ∨ 1000000 < l ∨ s < 1 ∨ 1000000 < s ∨ l < f
instance (f l s : Int) : Decidable (badT f l s) := by unfold badT; infer_instance
def timesV (f l s : Int) : Option (List Int) := if badT f l s then none else timesR l s 60 f []
def cnt (l s t : Int) : Nat := if t ≤ l then ((l - t) / s).toNat + 1 else 0
theorem cnt_step (l s t : Int) (hs : 1 ≤ s) (h : t ≤ l) : cnt l s t = cnt l s (t + s) + 1 := by
  unfold cnt
  rw [if_pos h]
  by_cases h2 : t + s ≤ l
  · rw [if_pos h2]
    have e : (l - t) / s = (l - (t + s)) / s + 1 := by
      rw [show l - t = (l - (t + s)) + 1 * s by omega, Int.add_mul_ediv_right _ _ (by omega)]
    have hn : 0 ≤ (l - (t + s)) / s := Int.ediv_nonneg (by omega) (by omega)
    rw [e]
    omega
  · rw [if_neg h2]
    have e : (l - t) / s = 0 := Int.ediv_eq_zero_of_lt (by omega) (by omega)
    rw [e]
    rfl
theorem timesR_some (l s : Int) (hs : 1 ≤ s) : ∀ (n : Nat) (t : Int) (acc : List Int), acc.length + cnt l s t ≤ 50 → cnt l s t < n → timesR l s n t acc = some (acc ++ (List.range (cnt l s t)).map fun (i : Nat) => t + (i : Int) * s)
  | 0, _, _, _, h => absurd h (Nat.not_lt_zero _)
  | n + 1, t, acc, h1, h2 => by
    rw [timesR]
    by_cases h : t ≤ l
    · have hc := cnt_step l s t hs h
      rw [if_pos h, if_neg (by omega), timesR_some l s hs n (t + s) (acc ++ [t]) (by rw [List.length_append, List.length_singleton]; omega) (by omega), hc, List.range_succ_eq_map, List.map_cons, List.map_map, List.append_assoc]
      congr 2
      rw [List.singleton_append]
      congr 1
      · simp
      · refine List.map_congr_left (fun i _ => ?_)
        simp only [Function.comp]
        rw [show ((Nat.succ i : Nat) : Int) = (i : Int) + 1 from rfl, Int.add_mul]
        omega
    · have hc : cnt l s t = 0 := by unfold cnt; rw [if_neg h]
      rw [if_neg h, hc]; simp
theorem timesR_none (l s : Int) (hs : 1 ≤ s) : ∀ (n : Nat) (t : Int) (acc : List Int), 50 < acc.length + cnt l s t → acc.length ≤ 50 → 50 - acc.length < n → timesR l s n t acc = none
  | 0, _, _, _, _, h => absurd h (Nat.not_lt_zero _)
  | n + 1, t, acc, h1, h2, h3 => by
    rw [timesR]
    by_cases h : t ≤ l
    · have hc := cnt_step l s t hs h
      rw [if_pos h]
      by_cases ha : acc.length = 50
      · rw [if_pos ha]
      · rw [if_neg ha]
        exact timesR_none l s hs n (t + s) (acc ++ [t]) (by rw [List.length_append, List.length_singleton]; omega) (by rw [List.length_append, List.length_singleton]; omega) (by rw [List.length_append, List.length_singleton]; omega)
    · have hc : cnt l s t = 0 := by unfold cnt; rw [if_neg h]
      omega
theorem timesV_good {f l s : Int} (h : ¬ badT f l s) : timesV f l s = if 50 < cnt l s f then none else some ((List.range (cnt l s f)).map fun (i : Nat) => f + (i : Int) * s) := by
  have hs : 1 ≤ s := by unfold badT at h; omega
  unfold timesV
  rw [if_neg h]
  split
  · rename_i h1
    exact timesR_none l s hs 60 f [] (by simpa using h1) (by simp) (by simp)
  · rename_i h1
    rw [timesR_some l s hs 60 f [] (by simp; omega) (by omega)]
    rfl
end Go.Proofs.YtpbemaaghbbocaaGreatDoor

/- Parts. -/
import Derived.Test.YtpbemaaghbbocaaGreatDoorA16
import Derived.Test.YtpbemaaghbbocaaGreatDoorA00
import Derived.Lib.SplitLaws
import Derived.Lib.IndexMore
import Derived.Test.YtpbemaaghbbocaaGreatDoorAX
import Derived.Test.YtpbemaaghbbocaaGreatDoorA01
namespace Go.Proofs.YtpbemaaghbbocaaGreatDoor
open Go.RowKit LS
theorem bls_irrefl : ∀ x : List UInt8, Op.bytesLess x x = false
  | [] => rfl
  | a :: x => by
    have h : ¬ a < a := UInt8.lt_irrefl a
    simp [Op.bytesLess, bls_irrefl x, h]
theorem bls_trans : ∀ x y z : List UInt8, Op.bytesLess x y = true → Op.bytesLess y z = true → Op.bytesLess x z = true
  | x, y, [], _, h => by cases y <;> simp [Op.bytesLess] at h
  | x, [], c :: z, h, _ => by cases x <;> simp [Op.bytesLess] at h
  | [], b :: y, c :: z, _, _ => rfl
  | a :: x, b :: y, c :: z, h1, h2 => by
    simp only [Op.bytesLess, Bool.or_eq_true, decide_eq_true_eq, Bool.and_eq_true, beq_iff_eq] at h1 h2 ⊢
    rcases h1 with h1 | ⟨rfl, h1⟩
    · rcases h2 with h2 | ⟨rfl, h2⟩
      · exact Or.inl (UInt8.lt_trans h1 h2)
      · exact Or.inl h1
    · rcases h2 with h2 | ⟨rfl, h2⟩
      · exact Or.inl h2
      · exact Or.inr ⟨rfl, bls_trans x y z h1 h2⟩
theorem bls_tri : ∀ x y : List UInt8, Op.bytesLess x y = false → Op.bytesLess y x = false → x = y
  | [], [], _, _ => rfl
  | [], b :: y, h, _ => by simp [Op.bytesLess] at h
  | a :: x, [], _, h => by simp [Op.bytesLess] at h
  | a :: x, b :: y, h1, h2 => by
    simp only [Op.bytesLess, Bool.or_eq_false_iff, decide_eq_false_iff_not, Bool.and_eq_false_iff, beq_eq_false_iff_ne] at h1 h2
    have hab : a = b := by
      have k1 : ¬ a.toNat < b.toNat := fun h => h1.1 (UInt8.lt_iff_toNat_lt.2 h)
      have k2 : ¬ b.toNat < a.toNat := fun h => h2.1 (UInt8.lt_iff_toNat_lt.2 h)
      exact UInt8.toNat_inj.1 (by omega)
    subst hab
    have e := bls_tri x y (h1.2.resolve_left (fun h => h rfl)) (h2.2.resolve_left (fun h => h rfl))
    rw [e]
def lt1 (a b : El) : Prop := Op.bytesLess (wrt a.1) (wrt b.1) = true
def Srt (l : List El) : Prop := l.Pairwise lt1
theorem placedV_mem (l : List El) (x z : El) : z ∈ placedV l x ↔ z = x ∨ z ∈ l := by
  induction l with
  | nil => simp [placedV]
  | cons y l ih =>
    rw [placedV]
    split
    · simp
    · rw [List.mem_cons, ih, List.mem_cons]
      constructor
      · rintro (h | h | h)
        · exact Or.inr (Or.inl h)
        · exact Or.inl h
        · exact Or.inr (Or.inr h)
      · rintro (h | h | h)
        · exact Or.inr (Or.inl h)
        · exact Or.inl h
        · exact Or.inr (Or.inr h)
theorem placedV_len (l : List El) (x : El) : (placedV l x).length = l.length + 1 := by
  induction l with
  | nil => rfl
  | cons y l ih =>
    rw [placedV]
    split
    · rfl
    · rw [List.length_cons, ih, List.length_cons]
theorem placedV_srt (l : List El) (x : El) (h : Srt l) (hx : ∀ y ∈ l, wrt y.1 ≠ wrt x.1) : Srt (placedV l x) := by
  induction l with
  | nil => exact List.pairwise_singleton _ _
  | cons y l ih =>
    obtain ⟨h1, h2⟩ := List.pairwise_cons.1 h
    rw [placedV]
    split
    · rename_i hlt
      refine List.pairwise_cons.2 ⟨fun z hz => ?_, h⟩
      rcases List.mem_cons.1 hz with rfl | hz
      · exact hlt
      · exact bls_trans _ _ _ hlt (h1 z hz)
    · rename_i hlt
      refine List.pairwise_cons.2 ⟨fun z hz => ?_, ih h2 (fun y hy => hx y (List.mem_cons_of_mem _ hy))⟩
      rcases (placedV_mem l x z).1 hz with rfl | hz
      · unfold lt1
        cases h3 : Op.bytesLess (wrt y.1) (wrt z.1) with
        | true => rfl
        | false => exact absurd (bls_tri _ _ h3 (Bool.eq_false_iff.2 hlt)) (hx y (List.mem_cons_self ..))
      · exact h1 z hz
theorem foldl_placed (L : List El) : ∀ acc : List El, Srt acc → (L.Pairwise fun a b => wrt a.1 ≠ wrt b.1) → (∀ y ∈ acc, ∀ x ∈ L, wrt y.1 ≠ wrt x.1) →
    Srt (L.foldl placedV acc) ∧ (L.foldl placedV acc).length = acc.length + L.length ∧ ∀ z, z ∈ L.foldl placedV acc ↔ z ∈ acc ∨ z ∈ L := by
  induction L with
  | nil => intro acc h _ _; exact ⟨h, rfl, by simp⟩
  | cons x L ih =>
    intro acc h hp hd
    obtain ⟨h1, h2⟩ := List.pairwise_cons.1 hp
    obtain ⟨k1, k2, k3⟩ := ih (placedV acc x) (placedV_srt acc x h (fun y hy => hd y hy x (List.mem_cons_self ..))) h2 (fun y hy z hz => by
      rcases (placedV_mem acc x y).1 hy with rfl | hy
      · exact h1 z hz
      · exact hd y hy z (List.mem_cons_of_mem _ hz))
    refine ⟨k1, by rw [List.foldl_cons, k2, placedV_len, List.length_cons]; omega, fun z => ?_⟩
    rw [List.foldl_cons, k3, placedV_mem, List.mem_cons]
    constructor
    · rintro ((h | h) | h)
      · exact Or.inr (Or.inl h)
      · exact Or.inl h
      · exact Or.inr (Or.inr h)
    · rintro (h | h | h)
      · exact Or.inl (Or.inr h)
      · exact Or.inl (Or.inl h)
      · exact Or.inr h
def Dst (st : List Ser) : Prop := st.Pairwise fun s r => ¬ (s.name = r.name ∧ wrt s.labs = wrt r.labs)
def pickedV (st : List Ser) (a : Nd) (op : Option Nat) (size t : Int) : List El := (st.filter fun s => picksV a s && !(withinV s.sams size t).isEmpty).map fun s => (s.labs, oneV op (withinV s.sams size t))
theorem windowedV_picked (st : List Ser) (a : Nd) (op : Option Nat) (size t : Int) : windowedV st a op size t = (pickedV st a op size t).foldl placedV [] := by
  unfold windowedV pickedV
  generalize ([] : List El) = acc
  induction st generalizing acc with
  | nil => rfl
  | cons s st ih =>
    rw [List.foldl_cons]
    by_cases h : (picksV a s && !(withinV s.sams size t).isEmpty) = true
    · rw [if_pos h, List.filter_cons_of_pos (by simpa using h), List.map_cons, List.foldl_cons]; exact ih _
    · rw [if_neg h, List.filter_cons_of_neg (by simpa using h)]; exact ih _
theorem picked_dst {st : List Ser} (h : Dst st) (a : Nd) (op : Option Nat) (size t : Int) : (pickedV st a op size t).Pairwise fun x y => wrt x.1 ≠ wrt y.1 := by
  unfold pickedV
  rw [List.pairwise_map]
  refine List.Pairwise.imp_of_mem ?_ (h.filter _)
  intro s r hs hr hn he
  have n1 := (List.mem_filter.1 hs).2
  have n2 := (List.mem_filter.1 hr).2
  simp only [Bool.and_eq_true, picksV, decide_eq_true_eq] at n1 n2
  exact hn ⟨n1.1.2.symm.trans n2.1.2, he⟩
def VOk (n : Nat) : VV → Prop
  | .sc _ => True
  | .vec l => Srt l ∧ l.length ≤ n
theorem windowed_ok {st : List Ser} (h : Dst st) (a : Nd) (op : Option Nat) (size t : Int) : VOk st.length (.vec (windowedV st a op size t)) := by
  rw [windowedV_picked]
  obtain ⟨h1, h2, _⟩ := foldl_placed (pickedV st a op size t) [] List.Pairwise.nil (picked_dst h a op size t) (by simp)
  refine ⟨h1, ?_⟩
  rw [h2]
  unfold pickedV
  rw [List.length_map]
  have := List.length_filter_le (fun s => picksV a s && !(withinV s.sams size t).isEmpty) st
  simpa using this
theorem map_srt {l : List El} (h : Srt l) (f : El → El) (hf : ∀ e, (f e).1 = e.1) : Srt (l.map f) := by
  unfold Srt
  rw [List.pairwise_map]
  exact h.imp (fun {a b} hab => by unfold lt1 at *; rw [hf, hf]; exact hab)
theorem filter_key {y : List El} (h : Srt y) (k : List UInt8) : y.filter (fun f => decide (k = wrt f.1)) = (y.find? fun f => decide (k = wrt f.1)).toList := by
  induction y with
  | nil => rfl
  | cons e y ih =>
    obtain ⟨h1, h2⟩ := List.pairwise_cons.1 h
    by_cases he : k = wrt e.1
    · rw [List.filter_cons_of_pos (by simpa using he), List.find?_cons_of_pos (by simpa using he)]
      have : y.filter (fun f => decide (k = wrt f.1)) = [] := by
        rw [List.filter_eq_nil_iff]
        intro f hf hk
        have h3 := h1 f hf
        unfold lt1 at h3
        rw [← he, of_decide_eq_true hk, bls_irrefl] at h3
        cases h3
      rw [this]; rfl
    · rw [List.filter_cons_of_neg (by simpa using he), List.find?_cons_of_neg (by simpa using he)]
      exact ih h2
theorem flatMap_opt {α β : Type} (f : α → Option β) (l : List α) : l.flatMap (fun a => (f a).toList) = l.filterMap f := by
  induction l with
  | nil => rfl
  | cons a l ih =>
    rw [List.flatMap_cons, ih, List.filterMap_cons]
    cases f a <;> rfl
def vvF (op : Nat) (y : List El) (e : El) : Option El := (y.find? fun f => decide (wrt e.1 = wrt f.1)).map fun f => (e.1, twoV op e.2 f.2)
theorem arith_vvF (op : Nat) (x y : List El) (hy : Srt y) : arithV op (.vec x) (.vec y) = .vec (x.filterMap (vvF op y)) := by
  have h : ∀ e : El, (y.filter fun f => decide (wrt e.1 = wrt f.1)).map (fun f => (e.1, twoV op e.2 f.2)) = (vvF op y e).toList := fun e => by
    rw [filter_key hy]
    unfold vvF
    cases y.find? (fun f => decide (wrt e.1 = wrt f.1)) <;> rfl
  show VV.vec (x.flatMap fun e => (y.filter fun f => decide (wrt e.1 = wrt f.1)).map fun f => (e.1, twoV op e.2 f.2)) = _
  rw [← flatMap_opt, funext h]
theorem vvF_srt (op : Nat) (x y : List El) (hx : Srt x) : Srt (x.filterMap (vvF op y)) := by
  unfold Srt
  rw [List.pairwise_filterMap]
  refine hx.imp ?_
  intro a b hab c hc d hd
  unfold vvF at hc hd
  cases h1 : y.find? (fun f => decide (wrt a.1 = wrt f.1)) with
  | none => rw [h1] at hc; cases hc
  | some f =>
    cases h2 : y.find? (fun f => decide (wrt b.1 = wrt f.1)) with
    | none => rw [h2] at hd; cases hd
    | some g =>
      rw [h1] at hc; rw [h2] at hd
      cases hc; cases hd
      exact hab
theorem arith_ok (op n : Nat) (a b : VV) (ha : VOk n a) (hb : VOk n b) : VOk n (arithV op a b) := by
  cases a with
  | sc a =>
    cases b with
    | sc b => trivial
    | vec y => exact ⟨map_srt hb.1 _ (fun _ => rfl), by rw [List.length_map]; exact hb.2⟩
  | vec x =>
    cases b with
    | sc b => exact ⟨map_srt ha.1 _ (fun _ => rfl), by rw [List.length_map]; exact ha.2⟩
    | vec y =>
      rw [arith_vvF op x y hb.1]
      exact ⟨vvF_srt op x y ha.1, Nat.le_trans (List.length_filterMap_le _ _) ha.2⟩
theorem neg_ok (n : Nat) (a : VV) (ha : VOk n a) : VOk n (negV a) := by
  cases a with
  | sc a => trivial
  | vec x => exact ⟨map_srt ha.1 _ (fun _ => rfl), by rw [List.length_map]; exact ha.2⟩
theorem groupAcc_ok (op : Nat) (bs : List (List UInt8)) (all : List El) : ∀ (l pre : List El), ((groupAcc op bs all pre l).Pairwise fun x y => wrt x.1 ≠ wrt y.1) ∧ (groupAcc op bs all pre l).length ≤ l.length ∧ ∀ x ∈ groupAcc op bs all pre l, ∀ f ∈ pre, wrt (keptV f.1 bs) ≠ wrt x.1
  | [], pre => ⟨List.Pairwise.nil, Nat.le_refl _, by simp [groupAcc]⟩
  | e :: l, pre => by
    obtain ⟨h1, h2, h3⟩ := groupAcc_ok op bs all l (pre ++ [e])
    rw [groupAcc]
    split
    · refine ⟨by simpa using h1, by simp; omega, fun x hx f hf => h3 x (by simpa using hx) f (List.mem_append_left _ hf)⟩
    · rename_i hn
      refine ⟨?_, by simp; omega, ?_⟩
      · rw [List.singleton_append, List.pairwise_cons]
        exact ⟨fun x hx => h3 x hx e (by simp), h1⟩
      · intro x hx f hf
        rw [List.singleton_append, List.mem_cons] at hx
        rcases hx with rfl | hx
        · intro he
          exact hn (List.any_eq_true.2 ⟨f, hf, by simpa using he⟩)
        · exact h3 x hx f (List.mem_append_left _ hf)
theorem groupV_ok (op : Nat) (bs : List (List UInt8)) (n : Nat) (l : List El) (h : l.length ≤ n) : VOk n (.vec (groupV op bs l)) := by
  obtain ⟨h1, h2, _⟩ := groupAcc_ok op bs l l []
  obtain ⟨k1, k2, _⟩ := foldl_placed (groupAcc op bs l [] l) [] List.Pairwise.nil h1 (by simp)
  exact ⟨k1, by show (List.foldl placedV [] _).length ≤ n; rw [k2]; simp; omega⟩
theorem elems_len {n : Nat} {v : VV} (h : VOk n v) : (elems v).length ≤ n := by
  cases v with
  | sc _ => exact Nat.zero_le _
  | vec l => exact h.2
theorem say_ok {st : List Ser} (h : Dst st) (tm : Int) : ∀ t : Tr, VOk st.length (sayT st tm t)
  | .nil => ⟨List.Pairwise.nil, Nat.zero_le _⟩
  | .node x y a l r => by
    have il := say_ok h tm l
    have ir := say_ok h tm r
    unfold sayT
    split
    · trivial
    split
    · exact windowed_ok h a _ _ _
    split
    · exact windowed_ok h a _ _ _
    split
    · exact neg_ok _ _ il
    split
    · exact groupV_ok _ _ _ _ (elems_len il)
    split
    · split
      · exact ir
      · exact il
    · exact arith_ok _ _ _ _ il ir
end Go.Proofs.YtpbemaaghbbocaaGreatDoor
namespace Go.Proofs.YtpbemaaghbbocaaGreatDoor.LS
open Go Go.RowKit
theorem index_one (c : UInt8) (l : List UInt8) : Lib.index l [c] = match seek c l with | none => -1 | some i => (i : Int) := by
  induction l with
  | nil => rfl
  | cons b l ih =>
    unfold Lib.index seek
    by_cases hb : b = c
    · subst hb; simp [List.isPrefixOf]
    · have h1 : [c].isPrefixOf (b :: l) = false := by simp [List.isPrefixOf, Ne.symm hb]
      have h2 : (b == c) = false := by simp [hb]
      rw [if_neg (by simp [h1]), ih, h2]
      cases seek c l with
      | none => rfl
      | some i =>
        have h3 : ¬ (((i : Int) == -1) = true) := by simp
        simp only [Bool.false_eq_true, if_false, Option.map_some]
        rw [if_neg h3]; rfl
theorem libcut_some {c : UInt8} {l x y : List UInt8} (h : cut c l = some (x, y)) : Lib.cut l [c] = (x, y, true) := by
  unfold cut at h
  cases hs : seek c l with
  | none => rw [hs] at h; cases h
  | some i =>
    rw [hs] at h
    simp only [Option.map_some, Option.some.injEq, Prod.mk.injEq] at h
    unfold Lib.cut
    rw [index_one, hs]
    simp only [List.length_singleton, Int.toNat_natCast]
    rw [if_pos (by omega), h.1, h.2]
theorem libcut_none {c : UInt8} {l : List UInt8} (h : cut c l = none) : Lib.cut l [c] = (l, [], false) := by
  unfold cut at h
  cases hs : seek c l with
  | some i => rw [hs] at h; cases h
  | none =>
    unfold Lib.cut
    rw [index_one, hs]
    rfl
theorem cut_some {c : UInt8} {l x y : List UInt8} (h : cut c l = some (x, y)) : l = x ++ c :: y ∧ c ∉ x := by
  unfold cut at h
  cases hs : seek c l with
  | none => rw [hs] at h; cases h
  | some i =>
    rw [hs] at h
    simp only [Option.map_some, Option.some.injEq, Prod.mk.injEq] at h
    obtain ⟨a, b, rfl, rfl, hn⟩ := seek_some hs
    have e1 : x = a := by rw [← h.1]; simp
    have e2 : y = b := by rw [← h.2]; simp
    subst e1; subst e2
    exact ⟨rfl, hn⟩
theorem cut_mid {c : UInt8} {x y : List UInt8} (h : c ∉ x) : cut c (x ++ c :: y) = some (x, y) := by
  unfold cut; rw [seek_mid c x y h]; simp
theorem splitK_one (c : UInt8) : ∀ (n : Nat) (l : List UInt8), l.length ≤ n → Lib.splitK [c] 0 (Lib.count l [c]) l = split c l := by
  intro n
  induction n with
  | zero =>
    intro l hl
    obtain rfl : l = [] := List.length_eq_zero_iff.1 (by omega)
    rw [Lib.count_miss rfl]; rfl
  | succ n ih =>
    intro l hl
    cases hs : seek c l with
    | none =>
      rw [Lib.count_miss (by rw [index_one, hs])]
      have hn := (seek_none_iff c l).1 hs
      have := split_append c l [] hn
      rw [List.append_nil] at this
      rw [this]; simp [Lib.splitK, split, pre]
    | some i =>
      obtain ⟨a, b, rfl, rfl, hn⟩ := seek_some hs
      have hi : Lib.index (a ++ c :: b) [c] = (a.length : Int) := by rw [index_one, hs]
      rw [Lib.count_hit (by simp) hi]
      have e1 : (a ++ c :: b).drop (a.length + [c].length) = b := by simp
      rw [e1, Nat.add_comm, Lib.splitK, if_neg (by rw [hi]; simp), hi]
      rw [show ((a.length : Int)).toNat = a.length by omega, e1, ih b (by simp at hl; omega), split_append c a _ hn, split_hit]
      simp [pre]
def strip (c : UInt8) : List UInt8 → List UInt8 × Bool
  | [] => ([], false)
  | b :: t => if b == c then (t, true) else (b :: t, false)
theorem libstrip (c : UInt8) (l : List UInt8) : (Lib.trimPrefix l [c], Lib.hasPrefix l [c]) = strip c l := by
  cases l with
  | nil => rfl
  | cons b t =>
    by_cases hb : b = c
    · subst hb; simp [Lib.trimPrefix, Lib.hasPrefix, strip]
    · have h1 : [c].isPrefixOf (b :: t) = false := by simp [List.isPrefixOf, Ne.symm hb]
      simp [Lib.trimPrefix, Lib.hasPrefix, strip, hb, h1]
theorem strip_length (c : UInt8) (l : List UInt8) : (strip c l).1.length ≤ l.length := by
  cases l with
  | nil => simp [strip]
  | cons b t => by_cases h : (b == c) = true <;> simp [strip, h]
def valueOk (d : List UInt8) : Bool := match number 1000000000 (strip 45 d).1 with
  | none => false
  | some v => !((strip 45 d).2 && v == 0)
def sample (t : List UInt8) : Option Nat := match cut 58 t with
  | none => none
  | some (a, d) => match number 1000000 a with
    | none => none
    | some tm => if valueOk d then some tm else none
def samplesAcc : Int → Nat → List (List UInt8) → Option Nat
  | _, n, [] => some n
  | last, n, x :: xs => match sample x with
    | none => none
    | some t => if (t : Int) ≤ last then none else samplesAcc t (n + 1) xs
def samples (l : List UInt8) : Option Nat := match strip 32 l with
  | (r, f) => if l = [] then some 0 else if f then samplesAcc (-1) 0 (split 32 r) else none
def leS (a b : List UInt8) : Bool := Op.bytesLess a b || a == b
def label (last : List UInt8) (x : List UInt8) : Option (List UInt8 × List UInt8) := match cut 61 x with
  | none => none
  | some (n, v) => if isName n && isWord v && !v.isEmpty && !leS n last then some (n, v) else none
def labelsAcc : List UInt8 → List (List UInt8 × List UInt8) → List (List UInt8) → Option (List (List UInt8 × List UInt8))
  | _, acc, [] => some acc
  | last, acc, x :: xs => match label last x with
    | none => none
    | some p => labelsAcc p.1 (acc ++ [p]) xs
def labels (l : List UInt8) : Option (List (List UInt8 × List UInt8)) := if l = [] then some [] else labelsAcc [] [] (split 44 l)
def line (l : List UInt8) : Option (List UInt8 × List UInt8 × Nat) := match cut 123 l with
  | none => none
  | some (name, rest) => match cut 125 rest with
    | none => none
    | some (inside, behind) => if isName name && (labels inside).isSome then (samples behind).map (fun n => (name, inside, n)) else none
theorem line_noopen {l : List UInt8} (h : cut 123 l = none) : line l = none := by unfold line; rw [h]
theorem line_noclose {l name rest : List UInt8} (h : cut 123 l = some (name, rest)) (h2 : cut 125 rest = none) : line l = none := by unfold line; rw [h]; simp only [h2]
theorem line_of {l name rest inside behind : List UInt8} (h : cut 123 l = some (name, rest)) (h2 : cut 125 rest = some (inside, behind)) :
    line l = if isName name && (labels inside).isSome then (samples behind).map (fun n => (name, inside, n)) else none := by unfold line; rw [h]; simp only [h2]
structure Entry where
  at_ : Nat
  name : List UInt8
  inside : List UInt8
  count : Nat
def linesAcc : Nat → List Entry → List (List UInt8) → Nat ⊕ List Entry
  | _, acc, [] => .inr acc
  | i, acc, x :: xs => if x = [] then linesAcc (i + 1) acc xs else match line x with
    | none => .inl i
    | some (a, b, n) => linesAcc (i + 1) (acc ++ [⟨i, a, b, n⟩]) xs
theorem linesAcc_empty {i : Nat} {acc : List Entry} {ps : List (List UInt8)} (hk : i < ps.length) (h : ps.getD i [] = []) : linesAcc i acc (ps.drop i) = linesAcc (i + 1) acc (ps.drop (i + 1)) := by
  have e : ps.getD i [] = ps[i] := by simp [hk]
  rw [List.drop_eq_getElem_cons hk, linesAcc, ← e, if_pos h]
theorem linesAcc_bad {i : Nat} {acc : List Entry} {ps : List (List UInt8)} (hk : i < ps.length) (h : ps.getD i [] ≠ []) (hl : line (ps.getD i []) = none) : linesAcc i acc (ps.drop i) = .inl i := by
  have e : ps.getD i [] = ps[i] := by simp [hk]
  rw [List.drop_eq_getElem_cons hk, linesAcc, ← e, if_neg h, hl]
theorem linesAcc_cons {i : Nat} {acc : List Entry} {ps : List (List UInt8)} (hk : i < ps.length) (h : ps.getD i [] ≠ []) {a b : List UInt8} {n : Nat} (hl : line (ps.getD i []) = some (a, b, n)) :
    linesAcc i acc (ps.drop i) = linesAcc (i + 1) (acc ++ [⟨i, a, b, n⟩]) (ps.drop (i + 1)) := by
  have e : ps.getD i [] = ps[i] := by simp [hk]
  rw [List.drop_eq_getElem_cons hk, linesAcc, ← e, if_neg h, hl]
theorem linesAcc_end {i : Nat} {acc : List Entry} {ps : List (List UInt8)} (hk : ¬ i < ps.length) : linesAcc i acc (ps.drop i) = .inr acc := by
  rw [List.drop_of_length_le (by omega)]; rfl
end Go.Proofs.YtpbemaaghbbocaaGreatDoor.LS
namespace Go.Proofs.YtpbemaaghbbocaaGreatDoor
open Go.RowKit LS
theorem cut_hit {c : UInt8} {s : ByteArray} {x y : List UInt8} (m : Int) (w : World) (hs : s.size ≤ 6000) (hm : w.cell? ⟨14, 0, none⟩ = some (.int .i64 m)) (h : cut c (bl s) = some (x, y)) :
    Calls Tryz.prog 91 #[.string s, .string ⟨#[c]⟩] w fun e w' => ∃ a b : ByteArray, e = .returned (.tuple #[.string a, .string b, .bool true]) ∧ Hid (bl a = x ∧ bl b = y) ∧ ∃ n, w' = w.drewN n := by
  refine (Tryz.strings_Cut s ⟨#[c]⟩ m w (by omega) hm).mono ?_
  rintro e w' ⟨rfl, hw⟩
  have e1 : Lib.cut s.data.toList (⟨#[c]⟩ : ByteArray).data.toList = (x, y, true) := libcut_some h
  rw [e1]
  exact ⟨_, _, rfl, ⟨bl_mk x, bl_mk y⟩, hw⟩
theorem cut_miss {c : UInt8} {s : ByteArray} (m : Int) (w : World) (hs : s.size ≤ 6000) (hm : w.cell? ⟨14, 0, none⟩ = some (.int .i64 m)) (h : cut c (bl s) = none) :
    Calls Tryz.prog 91 #[.string s, .string ⟨#[c]⟩] w fun e w' => ∃ a b : ByteArray, e = .returned (.tuple #[.string a, .string b, .bool false]) ∧ Hid (bl a = bl s ∧ bl b = []) ∧ ∃ n, w' = w.drewN n := by
  refine (Tryz.strings_Cut s ⟨#[c]⟩ m w (by omega) hm).mono ?_
  rintro e w' ⟨rfl, hw⟩
  have e1 : Lib.cut s.data.toList (⟨#[c]⟩ : ByteArray).data.toList = (bl s, [], false) := libcut_none h
  rw [e1]
  exact ⟨_, _, rfl, ⟨bl_mk _, bl_mk _⟩, hw⟩
theorem cutPrefix_any (c : UInt8) (s : ByteArray) (w : World) :
    Calls Tryz.prog 182 #[.string s, .string ⟨#[c]⟩] w fun e w' => ∃ a : ByteArray, e = .returned (.tuple #[.string a, .bool (strip c (bl s)).2]) ∧ Hid (bl a = (strip c (bl s)).1) ∧ w' = w := by
  refine (Tryz.strings_CutPrefix s ⟨#[c]⟩ w).mono ?_
  rintro e w' ⟨rfl, hw⟩
  have e1 := libstrip c (bl s)
  rw [← e1]
  exact ⟨_, rfl, bl_mk _, hw⟩
def StrRow (w : World) (g : Nat) (ps : List (List UInt8)) : Prop := g < w.heap.size ∧ ∀ i, i < ps.length → ∃ s : ByteArray, w.cell? ⟨g, i, none⟩ = some (.string s) ∧ bl s = ps.getD i []
theorem StrRow.below {w w' : World} {g : Nat} {ps : List (List UInt8)} {B : Nat} (h : StrRow w g ps) (hb : Below B w w') (hB : g < B) : StrRow w' g ps :=
  ⟨Nat.lt_of_lt_of_le h.1 hb.size, fun i hi => by
    obtain ⟨s, h1, h2⟩ := h.2 i hi
    exact ⟨s, (hb.cell (p := ⟨g, i, none⟩) hB).trans h1, h2⟩⟩
theorem split_any (c : UInt8) (s : ByteArray) (m : Int) (w : World) (hs : s.size ≤ 6000) (hm : w.cell? ⟨14, 0, none⟩ = some (.int .i64 m)) :
    Calls Tryz.prog 42 #[.string s, .string ⟨#[c]⟩] w fun e w' =>
      ∃ n, e = .returned (.slice (some ⟨w.heap.size, 0, none⟩) n n) ∧ n = (split c (bl s)).length ∧ StrRow w' w.heap.size (split c (bl s)) ∧ Below w.heap.size w w' := by
  refine (Tryz.strings_Split s ⟨#[c]⟩ m w (by omega) hm (Nat.le_refl 1)).mono ?_
  rintro e w' ⟨rfl, rfl⟩
  have hd : (Lib.splitB ⟨#[c]⟩ 0 (Lib.countB s ⟨#[c]⟩) s).map bl = split c (bl s) := by
    refine (Lib.splitB_data ⟨#[c]⟩ 0 (Lib.countB s ⟨#[c]⟩) s).trans ?_
    exact splitK_one c _ (bl s) (Nat.le_refl _)
  have hl : (Lib.splitB ⟨#[c]⟩ 0 (Lib.countB s ⟨#[c]⟩) s).length = Lib.countB s ⟨#[c]⟩ + 1 := Lib.splitB_all ⟨#[c]⟩ (Nat.le_refl 1) 0 _ s rfl
  have hl2 : (split c (bl s)).length = Lib.countB s ⟨#[c]⟩ + 1 := by rw [← hd, List.length_map, hl]
  refine ⟨_, rfl, hl2.symm, ⟨by simp, fun i hi => ?_⟩, (Below.refl _ _).alloc (Nat.le_refl _) _⟩
  have hi2 : i < (Lib.splitB ⟨#[c]⟩ 0 (Lib.countB s ⟨#[c]⟩) s).length := by rw [hl, ← hl2]; exact hi
  refine ⟨(Lib.splitB ⟨#[c]⟩ 0 (Lib.countB s ⟨#[c]⟩) s)[i], ?_, ?_⟩
  · rw [World.cell?_alloc_at _ _ _ _ rfl]
    simp [hi2]
  · rw [← hd]; simp [hi2]
theorem numI_bds (most : Nat) (l : List UInt8) : -1 ≤ numI most l ∧ numI most l ≤ most := by
  cases h : number most l with
  | none => rw [numI_none h]; omega
  | some v => rw [numI_some h]; have := number_le h; omega
def flatP : List (Int × Int) → List Value
  | [] => []
  | x :: l => .int .i64 x.1 :: .int .i64 x.2 :: flatP l
theorem flatP_append (l m : List (Int × Int)) : flatP (l ++ m) = flatP l ++ flatP m := by
  induction l with
  | nil => rfl
  | cons a l ih => simp [flatP, ih]
theorem flatP_get (l : List (Int × Int)) (j : Nat) : (flatP l)[j * 2]? = l[j]?.map (fun x => .int .i64 x.1) ∧ (flatP l)[j * 2 + 1]? = l[j]?.map (fun x => .int .i64 x.2) := by
  induction l generalizing j with
  | nil => simp [flatP]
  | cons r l ih =>
    cases j with
    | zero => simp [flatP]
    | succ j =>
      obtain ⟨h1, h2⟩ := ih j
      refine ⟨?_, ?_⟩
      · rw [show (j + 1) * 2 = j * 2 + 1 + 1 by omega]; simpa [flatP] using h1
      · rw [show (j + 1) * 2 + 1 = j * 2 + 1 + 1 + 1 by omega]; simpa [flatP] using h2
def smOk (x : Int × Int) : Prop := -1000000 ≤ x.1 ∧ x.1 ≤ 1000000 ∧ -1000000000 ≤ x.2 ∧ x.2 ≤ 1000000000
def valI (d : List UInt8) : Int := match strip 45 d with
  | (d', less) => if less then -(numI 1000000000 d') else numI 1000000000 d'
def smV (x : List UInt8) : Int × Int := match cut 58 x with
  | none => (0, 0)
  | some (a, d) => (numI 1000000 a, valI d)
def samsL : List UInt8 → List (Int × Int)
  | [] => []
  | _ :: t => (split 32 t).map smV
theorem smV_ok (x : List UInt8) : smOk (smV x) := by
  unfold smV
  split
  · unfold smOk; decide
  · rename_i a d _
    have h1 := numI_bds 1000000 a
    unfold valI
    cases hd : strip 45 d with
    | mk d' less =>
      have h2 := numI_bds 1000000000 d'
      unfold smOk
      cases less
      · simp only [Bool.false_eq_true, if_false]; omega
      · simp only [if_true]; omega
theorem flatP_step {l : List (List UInt8)} {k : Nat} (hk : k < l.length) {x : List UInt8} (hx : x = l.getD k []) {t v : Int} (hs : smV x = (t, v)) : flatP ((l.map smV).take (k + 1)) = flatP ((l.map smV).take k) ++ [.int .i64 t, .int .i64 v] := by
  have e : l[k] = x := by rw [hx, List.getD_eq_getElem?_getD, List.getElem?_eq_getElem hk]; rfl
  rw [← List.map_take, ← List.map_take, List.take_succ_eq_append_getElem hk, List.map_append, flatP_append, List.map_singleton, e, hs]
  rfl
def sams1 (l : List UInt8) : List (Int × Int) := match LS.seek 125 l with
  | some b => samsL (l.drop (b + 1))
  | none => []
theorem sams1_of {l x r y z : List UInt8} (hn : isName x = true) (h1 : cut 123 l = some (x, r)) (h2 : cut 125 r = some (y, z)) : sams1 l = samsL z := by
  obtain ⟨e1, n1⟩ := cut_some h1
  obtain ⟨e2, n2⟩ := cut_some h2
  have hx : (125 : UInt8) ∉ x := by
    intro hm
    unfold isName at hn
    rw [Bool.and_eq_true] at hn
    have := List.all_eq_true.1 hn.1 _ hm
    exact absurd this (by decide)
  have hl : l = (x ++ 123 :: y) ++ 125 :: z := by rw [e1, e2]; simp
  have hs : LS.seek 125 l = some (x ++ 123 :: y).length := by
    rw [hl]
    refine seek_mid 125 _ z ?_
    rw [List.mem_append, List.mem_cons]
    rintro (h | h | h)
    · exact hx h
    · exact absurd h (by decide)
    · exact n2 h
  unfold sams1
  rw [hs, hl]
  simp only
  congr 1
  rw [show (x ++ 123 :: y) ++ 125 :: z = ((x ++ 123 :: y) ++ [125]) ++ z by simp, List.drop_append_of_le_length (by simp; omega), List.drop_of_length_le (by simp; omega)]
  rfl
end Go.Proofs.YtpbemaaghbbocaaGreatDoor

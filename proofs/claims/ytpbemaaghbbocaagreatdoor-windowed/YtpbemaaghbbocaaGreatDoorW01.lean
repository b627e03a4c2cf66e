/- Parts. -/
import Derived.Test.YtpbemaaghbbocaaGreatDoorW00
import Derived.Test.YtpbemaaghbbocaaGreatDoorA16
import Derived.Test.YtpbemaaghbbocaaGreatDoorA38
import Derived.Test.YtpbemaaghbbocaaGreatDoorA45
import Derived.Test.YtpbemaaghbbocaaGreatDoorA25
import Derived.Test.YtpbemaaghbbocaaGreatDoorA00
namespace Go.Proofs.YtpbemaaghbbocaaGreatDoor
open Go.RowKit LS
set_option maxRecDepth 100000 in
set_option maxHeartbeats 1000000 in
theorem kdec_nn (n : Nat) (w : World) (hn : n ≤ 1000000000) :
    Calls Tryz.prog 14 #[.int .i64 n] w fun e w' => ∃ r : ByteArray, e = .returned (.string r) ∧ r.size ≤ 1000000001 ∧ Hid (bl r = decS n) ∧ Below w.heap.size w w' := by
  have hge : ¬ ((n : Int) < 0) := by omega
  go_enter Tryz.func14, Tryz.ntmps14
  go_wp2
  go_loopw [0, 3] (fun v sv wr => ∃ (m : Nat) (r : ByteArray), v = .int .i64 m ∧ sv = .string r ∧ r.size + m ≤ n ∧ Hid (decS n = decS m ++ bl r) ∧ Below w.heap.size w wr) (fun v _ _ => (intOf v).toNat)
  case atStart => exact ⟨n, ⟨#[]⟩, rfl, rfl, Nat.le_of_eq (Nat.zero_add n), hid (by simp [bl]), Below.refl _ _⟩
  case round =>
    obtain ⟨m, r, rfl, rfl, hr, HD, hb⟩ := hrel
    have hsz := hb.size
    by_cases h9 : m ≤ 9
    · have hcv := conv_digit wr m h9
      have HF : Hid (bl (⟨#[dig m]⟩ ++ r) = decS n) := hid (by rw [bl_app, HD.out, decS_small h9]; rfl)
      have e1 : (⟨#[dig m]⟩ : ByteArray).size = 1 := rfl
      have a1 : ∀ W, (Op.stringOp .add ⟨#[dig m]⟩ r).run Tryz.prog W = .ok (.string (⟨#[dig m]⟩ ++ r)) W := fun W => run_string_add_sum W _ _ (by omega)
      have hfin : (⟨#[dig m]⟩ ++ r).size ≤ 1000000001 := by simp only [ByteArray.size_append]; omega
      have hg9 : ¬ (9 < (m : Int)) := by omega
      go_wp2
      go_ret
      exact ⟨_, rfl, hfin, HF, (by repeat (first | exact Below.refl _ _ | assumption | refine Below.alloc ?_ (by first | omega | (simp; omega) | simp) _ | refine Below.setCell ?_ (by first | omega | (simp; omega) | simp) _ | refine below_drewN' ?_ _ | refine Below.drew ?_))⟩
    · have hcv := conv_digit wr (m % 10) (by omega)
      rw [show ((m % 10 : Nat) : Int) = (m : Int) % 10 from by omega] at hcv
      have HF : Hid (decS n = decS (m / 10) ++ bl (⟨#[dig (m % 10)]⟩ ++ r)) := hid (by rw [bl_app, HD.out, decS_great h9, List.append_assoc]; rfl)
      have e1 : (⟨#[dig (m % 10)]⟩ : ByteArray).size = 1 := rfl
      have a1 : ∀ W, (Op.stringOp .add ⟨#[dig (m % 10)]⟩ r).run Tryz.prog W = .ok (.string (⟨#[dig (m % 10)]⟩ ++ r)) W := fun W => run_string_add_sum W _ _ (by omega)
      have hfin : (⟨#[dig (m % 10)]⟩ ++ r).size + m / 10 ≤ n := by simp only [ByteArray.size_append]; omega
      have hg9 : 9 < (m : Int) := by omega
      go_wp2
      go_roundw
      case rel => exact ⟨m / 10, _, by simp, rfl, hfin, HF, (by repeat (first | exact Below.refl _ _ | assumption | refine Below.alloc ?_ (by first | omega | (simp; omega) | simp) _ | refine Below.setCell ?_ (by first | omega | (simp; omega) | simp) _ | refine below_drewN' ?_ _ | refine Below.drew ?_))⟩
      case measure => simp [intOf]; omega
set_option maxRecDepth 100000 in
set_option maxHeartbeats 1000000 in
theorem kdec_any (n : Int) (w : World) (h1 : -1000000000 ≤ n) (h2 : n ≤ 1000000000) :
    Calls Tryz.prog 14 #[.int .i64 n] w fun e w' => ∃ r : ByteArray, e = .returned (.string r) ∧ r.size ≤ 1000000002 ∧ Hid (bl r = decI n) ∧ Below w.heap.size w w' := by
  by_cases hn : n < 0
  · have HN := hid (kdec_nn n.natAbs w (by omega))
    have ea : ((n.natAbs : Nat) : Int) = -n := by omega
    rw [ea] at HN
    have HD : Hid (decI n = 45 :: decS n.natAbs) := hid (by unfold decI; rw [if_pos hn]; rfl)
    clear ea
    go_enter Tryz.func14, Tryz.ntmps14
    go_wp2_with fail
    refine HN.out.mono ?_
    rintro e w1 ⟨r, rfl, hr, HB, hb1⟩
    have HB1 := hid hb1
    have e1 : (⟨#[45]⟩ : ByteArray).size = 1 := rfl
    have a1 : ∀ W, (Op.stringOp .add ⟨#[45]⟩ r).run Tryz.prog W = .ok (.string (⟨#[45]⟩ ++ r)) W := fun W => run_string_add_sum W _ _ (by omega)
    have hfin : (⟨#[45]⟩ ++ r : ByteArray).size ≤ 1000000002 := by simp only [ByteArray.size_append]; omega
    have HF : Hid (bl (⟨#[45]⟩ ++ r) = decI n) := hid (by rw [bl_app, HB.out, HD.out]; rfl)
    clear hb1 HN HB HD
    go_wp2
    go_ret
    exact ⟨_, rfl, hfin, HF, HB1.out⟩
  · obtain ⟨m, rfl⟩ : ∃ m : Nat, n = m := ⟨n.toNat, by omega⟩
    refine (kdec_nn m w (by omega)).mono ?_
    rintro e w' ⟨r, rfl, h3, h4, h5⟩
    exact ⟨r, rfl, by omega, hid (by rw [h4.out]; unfold decI; rw [if_neg hn]; rfl), h5⟩
end Go.Proofs.YtpbemaaghbbocaaGreatDoor
namespace Go.Proofs.YtpbemaaghbbocaaGreatDoor
open Go.RowKit LS
theorem split_sum (c : UInt8) (l : List UInt8) : ((split c l).map fun x => x.length + 1).sum = l.length + 1 := by
  induction l with
  | nil => rfl
  | cons x l ih =>
    by_cases hx : x = c
    · subst hx; rw [split_hit, List.map_cons, List.sum_cons, ih, List.length_cons]; simp; omega
    · rw [split_miss c x l (by simp [hx])]
      cases h : split c l with
      | nil => exact absurd h (split_ne c l)
      | cons a t =>
        rw [h] at ih
        simp only [pre, List.map_cons, List.sum_cons, List.length_append, List.length_cons, List.length_nil] at ih ⊢
        omega
def full (P : List (List UInt8)) : List (List UInt8) := P.filter fun x => !x.isEmpty
def ser1 (x : List UInt8) : Ser := match line x with
  | some (a, b, _) => ⟨a, (labels b).getD [], sams1 x⟩
  | none => ⟨[], [], []⟩
def cnt1 (x : List UInt8) : Nat := match line x with
  | some (_, _, n) => n
  | none => 0
theorem full_nil (P : List (List UInt8)) : full ([] :: P) = full P := rfl
theorem full_cons (x : List UInt8) (P : List (List UInt8)) (h : x ≠ []) : full (x :: P) = x :: full P := by
  unfold full
  rw [List.filter_cons_of_pos]
  cases x with
  | nil => exact absurd rfl h
  | cons _ _ => rfl
theorem linesAcc_good (P : List (List UInt8)) : ∀ (ps : List (List UInt8)) (i : Nat) (acc : List Entry), P.drop i = ps → (∀ x ∈ ps, x ≠ [] → (line x).isSome = true) →
    ∃ rest : List Entry, linesAcc i acc ps = .inr (acc ++ rest) ∧ rest.map (serE P) = (full ps).map ser1 ∧ rest.map keyOfE = (full ps).map headOf ∧ rest.map (·.count) = (full ps).map cnt1
  | [], i, acc, _, _ => ⟨[], by simp [linesAcc], rfl, rfl, rfl⟩
  | x :: xs, i, acc, hd, hg => by
    have hd' : P.drop (i + 1) = xs := by rw [← List.drop_drop, hd]; rfl
    have hg' : ∀ y ∈ xs, y ≠ [] → (line y).isSome = true := fun y hy => hg y (List.mem_cons_of_mem _ hy)
    have hx : P.getD i [] = x := by
      have : (P.drop i)[0]? = some x := by rw [hd]; rfl
      rw [List.getElem?_drop] at this
      rw [List.getD_eq_getElem?_getD, show i = i + 0 from rfl, this]; rfl
    by_cases h0 : x = []
    · subst h0
      rw [linesAcc, if_pos rfl, full_nil]
      exact linesAcc_good P xs (i + 1) acc hd' hg'
    · have hl := hg x (List.mem_cons_self ..) h0
      cases hh : line x with
      | none => rw [hh] at hl; cases hl
      | some t =>
        obtain ⟨a, b, n⟩ := t
        obtain ⟨rest, e1, e2, e3, e4⟩ := linesAcc_good P xs (i + 1) (acc ++ [⟨i, a, b, n⟩]) hd' hg'
        refine ⟨⟨i, a, b, n⟩ :: rest, ?_, ?_, ?_, ?_⟩
        · rw [linesAcc, if_neg h0, hh]
          simp only
          rw [e1]; simp
        · rw [full_cons x xs h0, List.map_cons, List.map_cons, e2]
          congr 1
          unfold serE ser1
          rw [hh, hx]
        · rw [full_cons x xs h0, List.map_cons, List.map_cons, e3]
          congr 1
          exact (line_parts hh).2.2.symm
        · rw [full_cons x xs h0, List.map_cons, List.map_cons, e4]
          congr 1
          unfold cnt1
          rw [hh]
theorem linesAcc_bad1 : ∀ (ps : List (List UInt8)) (i : Nat) (acc : List Entry), (∃ x ∈ ps, x ≠ [] ∧ line x = none) → ∃ k, linesAcc i acc ps = .inl k
  | [], _, _, h => by obtain ⟨x, hx, _⟩ := h; cases hx
  | x :: xs, i, acc, h => by
    rw [linesAcc]
    by_cases h0 : x = []
    · rw [if_pos h0]
      obtain ⟨y, hy, h1, h2⟩ := h
      rcases List.mem_cons.1 hy with rfl | hy
      · exact absurd h0 h1
      · exact linesAcc_bad1 xs _ _ ⟨y, hy, h1, h2⟩
    · rw [if_neg h0]
      cases hh : line x with
      | none => exact ⟨i, rfl⟩
      | some t =>
        obtain ⟨a, b, n⟩ := t
        obtain ⟨y, hy, h1, h2⟩ := h
        rcases List.mem_cons.1 hy with rfl | hy
        · rw [hh] at h2; cases h2
        · exact linesAcc_bad1 xs _ _ ⟨y, hy, h1, h2⟩
theorem dup_none : ∀ (rest seen : List Entry), (rest.Pairwise fun a b => keyOfE a ≠ keyOfE b) → (∀ e ∈ rest, ∀ s ∈ seen, keyOfE s ≠ keyOfE e) → dupFrom seen rest = none
  | [], _, _, _ => rfl
  | e :: rest, seen, h1, h2 => by
    obtain ⟨g1, g2⟩ := List.pairwise_cons.1 h1
    rw [dupFrom, if_neg]
    · refine dup_none rest (seen ++ [e]) g2 (fun f hf s hs => ?_)
      rcases List.mem_append.1 hs with hs | hs
      · exact h2 f (List.mem_cons_of_mem _ hf) s hs
      · rw [List.mem_singleton] at hs; subst hs; exact g1 f hf
    · rw [List.contains_iff_mem]
      intro hm
      obtain ⟨s, hs, he⟩ := List.mem_map.1 hm
      exact h2 e (List.mem_cons_self ..) s hs he
def GoodL (P : List (List UInt8)) : Prop := (P.map fun x => x.length + 1).sum ≤ 6001 ∧ (∀ x ∈ P, x ≠ [] → (line x).isSome = true) ∧ ((full P).map headOf).Nodup ∧ (full P).length ≤ 30 ∧ ((full P).map cnt1).sum ≤ 200
theorem load_good (l : List UInt8) : (loadRes l).1 = 0 ↔ GoodL (split 10 l) := by
  unfold GoodL
  rw [split_sum]
  unfold loadRes
  by_cases hlen : 6000 < l.length
  · rw [if_pos hlen]
    exact ⟨fun h => absurd h (by decide), fun h => by omega⟩
  rw [if_neg hlen]
  by_cases hg : ∀ x ∈ split 10 l, x ≠ [] → (line x).isSome = true
  · obtain ⟨rest, e1, e2, e3, e4⟩ := linesAcc_good (split 10 l) (split 10 l) 0 [] rfl hg
    rw [List.nil_append] at e1
    rw [e1]
    simp only
    rw [twice_eq e1]
    have hs : sumTo rest rest.length = ((full (split 10 l)).map cnt1).sum := by
      unfold sumTo; rw [List.take_length, e4]
    have hn : rest.length = (full (split 10 l)).length := by
      have := congrArg List.length e3
      simpa using this
    have hp : (rest.Pairwise fun a b => keyOfE a ≠ keyOfE b) ↔ ((full (split 10 l)).map headOf).Nodup := by
      rw [← e3]
      unfold List.Nodup
      rw [List.pairwise_map]
    by_cases hd : rest.Pairwise fun a b => keyOfE a ≠ keyOfE b
    · rw [dup_none rest [] hd (by simp)]
      simp only
      rw [hs, hn]
      by_cases hm : 30 < (full (split 10 l)).length ∨ 200 < ((full (split 10 l)).map cnt1).sum
      · rw [if_pos hm]
        exact ⟨fun h => absurd h (by decide), fun h => by omega⟩
      · rw [if_neg hm]
        exact ⟨fun _ => ⟨by omega, hg, hp.1 hd, by omega, by omega⟩, fun _ => rfl⟩
    · cases hdd : dupFrom [] rest with
      | none => exact absurd (dup_pair rest [] hdd).1 hd
      | some i => exact ⟨fun h => (by cases h), fun h => absurd (hp.2 h.2.2.1) hd⟩
  · have hb : ∃ x ∈ split 10 l, x ≠ [] ∧ line x = none := by
      simp only [Classical.not_forall] at hg
      obtain ⟨x, hx, h0, h1⟩ := hg
      refine ⟨x, hx, h0, ?_⟩
      cases hh : line x with
      | none => rfl
      | some _ => rw [hh] at h1; exact absurd rfl h1
    obtain ⟨k, hk⟩ := linesAcc_bad1 _ 0 [] hb
    rw [hk]
    exact ⟨fun h => (by cases h), fun h => absurd h.2.1 hg⟩
theorem store_good {l : List UInt8} (h : GoodL (split 10 l)) : storeS l = (full (split 10 l)).map ser1 ∧ Dst (storeS l) := by
  obtain ⟨rest, e1, e2, e3, e4⟩ := linesAcc_good (split 10 l) (split 10 l) 0 [] rfl h.2.1
  rw [List.nil_append] at e1
  have hst : storeS l = (full (split 10 l)).map ser1 := by unfold storeS; rw [e1]; exact e2
  refine ⟨hst, ?_⟩
  rw [hst]
  unfold Dst
  rw [List.pairwise_map]
  have hn := h.2.2.1
  unfold List.Nodup at hn
  rw [List.pairwise_map] at hn
  refine List.Pairwise.imp_of_mem ?_ hn
  intro x y hx hy hne hh
  have gx : x ∈ split 10 l ∧ x ≠ [] := by
    have := List.mem_filter.1 hx
    exact ⟨this.1, fun h0 => by rw [h0] at this; exact absurd this.2 (by decide)⟩
  have gy : y ∈ split 10 l ∧ y ≠ [] := by
    have := List.mem_filter.1 hy
    exact ⟨this.1, fun h0 => by rw [h0] at this; exact absurd this.2 (by decide)⟩
  have lx := h.2.1 x gx.1 gx.2
  have ly := h.2.1 y gy.1 gy.2
  cases h1 : line x with
  | none => rw [h1] at lx; cases lx
  | some t =>
    cases h2 : line y with
    | none => rw [h2] at ly; cases ly
    | some u =>
      obtain ⟨a, b, n⟩ := t
      obtain ⟨a', b', n'⟩ := u
      have p1 := line_parts h1
      have p2 := line_parts h2
      unfold ser1 at hh
      rw [h1, h2] at hh
      simp only at hh
      obtain ⟨q1, hq1⟩ := Option.isSome_iff_exists.1 p1.2.1
      obtain ⟨q2, hq2⟩ := Option.isSome_iff_exists.1 p2.2.1
      rw [hq1, hq2] at hh
      simp only [Option.getD_some] at hh
      rw [wrt_back hq1, wrt_back hq2] at hh
      exact hne (by rw [p1.2.2, p2.2.2, hh.1, hh.2])
end Go.Proofs.YtpbemaaghbbocaaGreatDoor
namespace Go.Proofs.YtpbemaaghbbocaaGreatDoor
open Go.RowKit LS
def pcS (x : Int × Int) : List UInt8 := decI x.1 ++ 58 :: decI x.2
def smS (x : Int × Int) : List UInt8 := 32 :: pcS x
def linS (R : List (Int × Int)) : List UInt8 := [120, 123, 125] ++ R.flatMap smS
def riseF : Int → List (Int × Int) → Prop
  | _, [] => True
  | last, x :: l => last < x.1 ∧ 0 ≤ x.1 ∧ x.1 ≤ 1000000 ∧ -1000000000 ≤ x.2 ∧ x.2 ≤ 1000000000 ∧ riseF x.1 l
theorem decS_mem {n : Nat} {c : UInt8} (h : c ∈ decS n) : digit c = true := List.all_eq_true.1 (decS_ok n).1 c h
theorem decI_mem {n : Int} {c : UInt8} (h : c ∈ decI n) : digit c = true ∨ c = 45 := by
  unfold decI at h
  split at h
  · rcases List.mem_append.1 h with h | h
    · rw [List.mem_singleton] at h; exact Or.inr h
    · exact Or.inl (decS_mem h)
  · exact Or.inl (decS_mem h)
theorem decI_not {n : Int} {c : UInt8} (h1 : digit c = false) (h2 : c ≠ 45) : c ∉ decI n := fun h => by
  rcases decI_mem h with h | h
  · rw [h1] at h; cases h
  · exact h2 h
theorem pcS_not {x : Int × Int} {c : UInt8} (h1 : digit c = false) (h2 : c ≠ 45) (h3 : c ≠ 58) : c ∉ pcS x := by
  unfold pcS
  rw [List.mem_append, List.mem_cons, not_or, not_or]
  exact ⟨decI_not h1 h2, h3, decI_not h1 h2⟩
theorem split_pcs : ∀ (R : List (Int × Int)) (x : Int × Int), split 32 (pcS x ++ R.flatMap smS) = pcS x :: R.map pcS
  | [], x => by
    rw [List.flatMap_nil, split_append 32 _ _ (pcS_not (by decide) (by decide) (by decide))]
    simp [split, pre]
  | y :: R, x => by
    rw [List.flatMap_cons, split_append 32 _ _ (pcS_not (by decide) (by decide) (by decide))]
    show pre (pcS x) (split 32 (32 :: (pcS y ++ R.flatMap smS))) = _
    rw [split_hit, split_pcs R y]
    simp [pre]
theorem strip_dec (n : Nat) : strip 45 (decS n) = (decS n, false) := by
  obtain ⟨h1, _, h3, _⟩ := decS_ok n
  cases hd : decS n with
  | nil => exact absurd hd h3
  | cons c d =>
    rw [hd, List.all_cons, Bool.and_eq_true] at h1
    have : (c == 45) = false := by
      rw [beq_eq_false_iff_ne]; rintro rfl; exact absurd h1.1 (by decide)
    simp [strip, this]
theorem strip_decI (v : Int) : strip 45 (decI v) = (decS v.natAbs, decide (v < 0)) := by
  unfold decI
  split
  · rename_i h; rw [decide_eq_true h]; rfl
  · rename_i h
    rw [decide_eq_false h, strip_dec, show v.natAbs = v.toNat by omega]
theorem cut_pc {x : Int × Int} : cut 58 (pcS x) = some (decI x.1, decI x.2) := cut_mid (decI_not (by decide) (by decide))
theorem decI_nn {v : Int} (h : 0 ≤ v) : decI v = decS v.toNat := by unfold decI; rw [if_neg (by omega)]
theorem sample_pc {x : Int × Int} (h1 : 0 ≤ x.1) (h2 : x.1 ≤ 1000000) (h3 : -1000000000 ≤ x.2) (h4 : x.2 ≤ 1000000000) : sample (pcS x) = some x.1.toNat ∧ smV (pcS x) = x := by
  have n1 : number 1000000 (decI x.1) = some x.1.toNat := by rw [decI_nn h1]; exact number_decS (by omega)
  have n2 : number 1000000000 (decS x.2.natAbs) = some x.2.natAbs := number_decS (by omega)
  have s1 := strip_decI x.2
  refine ⟨?_, ?_⟩
  · unfold sample
    rw [cut_pc]
    simp only [n1]
    have : valueOk (decI x.2) = true := by
      unfold valueOk
      rw [s1]
      simp only [n2]
      by_cases h : x.2 < 0
      · have : (x.2.natAbs == 0) = false := by rw [beq_eq_false_iff_ne]; omega
        simp [this]
      · simp [h]
    rw [this]
    rfl
  · unfold smV valI
    rw [cut_pc]
    simp only [s1]
    rw [numI_some n1, numI_some n2]
    obtain ⟨a, b⟩ := x
    simp only at *
    by_cases h : b < 0
    · rw [decide_eq_true h, if_pos rfl]
      congr 1 <;> omega
    · rw [decide_eq_false h, if_neg Bool.false_ne_true]
      congr 1 <;> omega
theorem samplesAcc_pcs : ∀ (R : List (Int × Int)) (last : Int) (n : Nat), riseF last R → samplesAcc last n (R.map pcS) = some (n + R.length) ∧ (R.map pcS).map smV = R
  | [], last, n, _ => ⟨rfl, rfl⟩
  | x :: R, last, n, h => by
    obtain ⟨h0, h1, h2, h3, h4, h5⟩ := h
    obtain ⟨e1, e2⟩ := sample_pc h1 h2 h3 h4
    obtain ⟨f1, f2⟩ := samplesAcc_pcs R x.1 (n + 1) h5
    have hx : ((x.1.toNat : Nat) : Int) = x.1 := by omega
    refine ⟨?_, ?_⟩
    · rw [List.map_cons, samplesAcc, e1]
      simp only
      rw [hx, if_neg (by omega), f1, List.length_cons]
      congr 1; omega
    · rw [List.map_cons, List.map_cons, f2, e2]
theorem samples_line {R : List (Int × Int)} (h : riseF (-1) R) : samples (R.flatMap smS) = some R.length ∧ samsL (R.flatMap smS) = R := by
  cases R with
  | nil => exact ⟨rfl, rfl⟩
  | cons x R =>
    have e : (x :: R).flatMap smS = 32 :: (pcS x ++ R.flatMap smS) := by rw [List.flatMap_cons]; rfl
    obtain ⟨f1, f2⟩ := samplesAcc_pcs (x :: R) (-1) 0 h
    have hs := split_pcs R x
    rw [e]
    refine ⟨?_, ?_⟩
    · unfold samples
      show (if 32 :: (pcS x ++ R.flatMap smS) = [] then some 0 else if true = true then samplesAcc (-1) 0 (split 32 (pcS x ++ R.flatMap smS)) else none) = _
      rw [if_neg (by simp), if_pos rfl, hs]
      rw [List.map_cons] at f1
      rw [f1, Nat.zero_add]
    · show (split 32 (pcS x ++ R.flatMap smS)).map smV = _
      rw [hs]; exact f2
theorem line_one {R : List (Int × Int)} (h : riseF (-1) R) : line (linS R) = some ([120], [], R.length) ∧ sams1 (linS R) = R := by
  have c1 : cut 123 (linS R) = some ([120], 125 :: R.flatMap smS) := cut_mid (c := 123) (x := [120]) (y := 125 :: R.flatMap smS) (by decide)
  have c2 : cut 125 (125 :: R.flatMap smS) = some ([], R.flatMap smS) := cut_mid (c := 125) (x := []) (y := R.flatMap smS) (by decide)
  obtain ⟨s1, s2⟩ := samples_line h
  refine ⟨?_, ?_⟩
  · rw [line_of c1 c2, if_pos (by decide), s1]; rfl
  · rw [sams1_of (by decide) c1 c2, s2]
theorem linS_no : ∀ (R : List (Int × Int)), (10 : UInt8) ∉ linS R := by
  intro R
  unfold linS
  rw [List.mem_append, not_or]
  refine ⟨by decide, ?_⟩
  rw [List.mem_flatMap]
  rintro ⟨x, _, hx⟩
  unfold smS at hx
  rcases List.mem_cons.1 hx with h | h
  · exact absurd h (by decide)
  · exact pcS_not (by decide) (by decide) (by decide) h
theorem split_line (R : List (Int × Int)) : split 10 (linS R) = [linS R] := by
  have := split_append 10 (linS R) [] (linS_no R)
  rw [List.append_nil] at this
  rw [this]
  simp [split, pre]
theorem store_line {R : List (Int × Int)} (h : riseF (-1) R) (hl : (linS R).length ≤ 6000) (hn : R.length ≤ 200) : (loadRes (linS R)).1 = 0 ∧ storeS (linS R) = [⟨[120], [], R⟩] := by
  obtain ⟨e1, e2⟩ := line_one h
  have hf : full [linS R] = [linS R] := full_cons _ _ (by unfold linS; simp)
  have hg : GoodL (split 10 (linS R)) := by
    rw [split_line]
    unfold GoodL
    rw [hf]
    refine ⟨by simp; omega, fun x hx _ => ?_, by simp, by simp, ?_⟩
    · rw [List.mem_singleton] at hx; subst hx; rw [e1]; rfl
    · have : cnt1 (linS R) = R.length := by unfold cnt1; rw [e1]
      simp [this]; exact hn
  refine ⟨(load_good _).2 hg, ?_⟩
  rw [(store_good hg).1, split_line, hf]
  have : ser1 (linS R) = ⟨[120], [], R⟩ := by unfold ser1; rw [e1, e2]; rfl
  rw [List.map_singleton, this]
theorem read_gt {t : Tr} (h : GT t) (hn : nd t 1 ≤ 20) (hk : kindT t ≠ 0) (hl : (printT t 1).length ≤ 300) : readQ (printT t 1) = .ok t := by
  unfold readQ
  rw [if_neg (by omega)]
  have hlx := lex_print h 1
  have hlen := congrArg List.length hlx
  rw [List.length_map, List.length_append, List.length_singleton] at hlen
  obtain ⟨r', e1, e2⟩ := (parse_print h).1 0 (by omega) (10 * (lexAll (printT t 1) ((printT t 1).length + 1) 0).length + 5) _ _ 0 hlx (stops_end 0) (by show 5 * (toks t 1).length + 4 ≤ _; omega) (by show 0 + nd t 1 ≤ 20; omega)
  rw [e2]
  have hk0 : (hd r').kind = 0 := congrArg Prod.fst (cons_sh e1).1
  simp only
  rw [if_pos hk0, if_neg hk]
theorem decS_len4 {n : Nat} (h : n ≤ 1000) : (decS n).length ≤ 4 := by
  by_cases h1 : n ≤ 9
  · rw [decS_small h1]; simp
  · rw [decS_great h1, List.length_append]
    by_cases h2 : n / 10 ≤ 9
    · rw [decS_small h2]; simp
    · rw [decS_great h2, List.length_append]
      by_cases h3 : n / 10 / 10 ≤ 9
      · rw [decS_small h3]; simp
      · rw [decS_great h3, List.length_append, decS_small (show n / 10 / 10 / 10 ≤ 9 by omega)]; simp
theorem sel_x : selOk [120] [] := ⟨by decide, by decide, by decide, by decide, by decide, by simp⟩
def winQ (o n : Nat) : List UInt8 := overWords.getD o [] ++ [40, 120, 91] ++ decS n ++ [93, 41]
theorem over_len : ∀ o, o < 5 → (overWords.getD o []).length ≤ 5 := by decide
theorem read_win {o n : Nat} (ho : o < 5) (h1 : 1 ≤ n) (h2 : n ≤ 1000) : readQ (winQ o n) = .ok (leafT ⟨2, o, (n : Int), [120], [], []⟩) := by
  have e : printT (leafT ⟨2, o, (n : Int), [120], [], []⟩) 1 = winQ o n := by
    show overWords.getD o [] ++ [40] ++ selS ⟨2, o, (n : Int), [120], [], []⟩ ++ [91] ++ decS n ++ [93, 41] = _
    have : selS ⟨2, o, (n : Int), [120], [], []⟩ = [120] := rfl
    rw [this]
    unfold winQ
    simp
  have hl : (winQ o n).length ≤ 300 := by
    have a1 := decS_len4 h2
    have a2 := over_len o ho
    unfold winQ
    simp only [List.length_append, List.length_cons, List.length_nil]
    omega
  have := read_gt (GT.win o n [120] [] ho h1 h2 sel_x) (by show 1 ≤ 20; omega) (by show 2 ≠ 0; omega) (by rw [e]; exact hl)
  rw [e] at this
  exact this
theorem read_x : readQ [120] = .ok (leafT ⟨1, 0, 0, [120], [], []⟩) := by kernel_rfl
theorem times_one {t : Int} (h0 : 0 ≤ t) (h1 : t ≤ 1000000) : timesV t t 1 = some [t] := by
  unfold timesV
  rw [if_neg (by unfold badT; omega)]
  rw [show (60 : Nat) = 58 + 1 + 1 from rfl, timesR, if_pos (by omega), if_neg (by simp), timesR, if_neg (by omega)]
  rfl
theorem win_one (R : List (Int × Int)) (a : Nd) (op : Option Nat) (size t : Int) (hc : a.conds = []) (hn : a.name = [120]) : windowedV [⟨[120], [], R⟩] a op size t = if (withinV R size t).isEmpty then [] else [([], oneV op (withinV R size t))] := by
  unfold windowedV
  have hp : picksV a ⟨[120], [], R⟩ = true := by unfold picksV; rw [hc, hn]; rfl
  show (if picksV a ⟨[120], [], R⟩ && !(withinV R size t).isEmpty then placedV [] ([], oneV op (withinV R size t)) else []) = _
  rw [hp]
  cases (withinV R size t).isEmpty <;> rfl
def sayW (R : List (Int × Int)) (op : Option Nat) (size t : Int) : List UInt8 := decI t ++ (if (withinV R size t).isEmpty then [] else [32, 123, 125] ++ decI (oneV op (withinV R size t)))
theorem ans_one (R : List (Int × Int)) (op : Option Nat) (size t : Int) : answeredV t (.vec (if (withinV R size t).isEmpty then [] else [([], oneV op (withinV R size t))])) = sayW R op size t := by
  unfold sayW
  cases (withinV R size t).isEmpty
  · show decI t ++ ([elS ([], oneV op (withinV R size t))]).flatten = _
    have : elS ([], oneV op (withinV R size t)) = [32, 123, 125] ++ decI (oneV op (withinV R size t)) := rfl
    rw [this]; simp
  · rfl
theorem eval_one {R : List (Int × Int)} (h : riseF (-1) R) (hl : (linS R).length ≤ 6000) (hn : R.length ≤ 200) {t : Int} (h0 : 0 ≤ t) (h1 : t ≤ 1000000) {q : List UInt8} {tr : Tr} (hq : readQ q = .ok tr) {x : List UInt8} (hx : answeredV t (sayT [⟨[120], [], R⟩] t tr) = x) : evalQ q (linS R) t t 1 = (x, 0, 0) := by
  obtain ⟨e1, e2⟩ := store_line h hl hn
  unfold evalQ
  rw [hq, e1, e2, times_one h0 h1]
  show (joinN [lineAt [⟨[120], [], R⟩] tr t], 0, 0) = _
  show (lineAt [⟨[120], [], R⟩] tr t, 0, 0) = _
  unfold lineAt
  rw [hx]
theorem eval_win {R : List (Int × Int)} (h : riseF (-1) R) (hl : (linS R).length ≤ 6000) (hn : R.length ≤ 200) {t : Int} (h0 : 0 ≤ t) (h1 : t ≤ 1000000) {o n : Nat} (ho : o < 5) (n1 : 1 ≤ n) (n2 : n ≤ 1000) : evalQ (winQ o n) (linS R) t t 1 = (sayW R (some o) n t, 0, 0) := by
  refine eval_one h hl hn h0 h1 (read_win ho n1 n2) ?_
  rw [← ans_one, ← win_one R ⟨2, o, (n : Int), [120], [], []⟩ (some o) n t rfl rfl]
  rfl
theorem eval_x {R : List (Int × Int)} (h : riseF (-1) R) (hl : (linS R).length ≤ 6000) (hn : R.length ≤ 200) {t : Int} (h0 : 0 ≤ t) (h1 : t ≤ 1000000) : evalQ [120] (linS R) t t 1 = (sayW R none 10 t, 0, 0) := by
  refine eval_one h hl hn h0 h1 read_x ?_
  rw [← ans_one, ← win_one R ⟨1, 0, 0, [120], [], []⟩ none 10 t rfl rfl]
  rfl
theorem cutV_idW {n : Int} (h1 : -1000000000 ≤ n) (h2 : n ≤ 1000000000) : cutV n = n := by unfold cutV; rw [if_neg (by omega), if_neg (by omega)]
def mil (x : Int) : Prop := -1000000 ≤ x ∧ x ≤ 1000000
theorem sum_mil : ∀ l : List Int, (∀ x ∈ l, mil x) → -1000000 * (l.length : Int) ≤ l.sum ∧ l.sum ≤ 1000000 * (l.length : Int)
  | [], _ => ⟨by decide, by decide⟩
  | x :: l, h => by
    have h1 := sum_mil l (fun y hy => h y (List.mem_cons_of_mem _ hy))
    have h2 := h x (List.mem_cons_self ..)
    unfold mil at h2
    rw [List.sum_cons, List.length_cons]
    omega
theorem maxL_mil : ∀ (l : List Int) (m : Int), mil m → (∀ x ∈ l, mil x) → mil (maxL m l)
  | [], m, hm, _ => hm
  | x :: l, m, hm, h => by
    rw [maxL]
    refine maxL_mil l _ ?_ (fun y hy => h y (List.mem_cons_of_mem _ hy))
    split
    · exact h x (List.mem_cons_self ..)
    · exact hm
theorem minL_mil : ∀ (l : List Int) (m : Int), mil m → (∀ x ∈ l, mil x) → mil (minL m l)
  | [], m, hm, _ => hm
  | x :: l, m, hm, h => by
    rw [minL]
    refine minL_mil l _ ?_ (fun y hy => h y (List.mem_cons_of_mem _ hy))
    split
    · exact h x (List.mem_cons_self ..)
    · exact hm
theorem head_mil {l : List Int} (h : ∀ x ∈ l, mil x) : mil (l.headD 0) ∧ mil (l.getLastD 0) := by
  cases l with
  | nil => exact ⟨by unfold mil; decide, by unfold mil; decide⟩
  | cons x l =>
    refine ⟨h x (List.mem_cons_self ..), ?_⟩
    rw [List.getLastD_cons]
    cases hl : l with
    | nil => exact h x (List.mem_cons_self ..)
    | cons y m =>
      refine h _ (List.mem_cons_of_mem _ ?_)
      rw [hl, List.getLastD_eq_getLast?, List.getLast?_eq_some_getLast (by simp), Option.getD_some]
      exact List.getLast_mem _
theorem told_cut {l : List Int} (h : ∀ x ∈ l, mil x) (hl : l.length ≤ 100) (o : Nat) : cutV (toldV o l) = toldV o l ∧ -100000000 ≤ toldV o l ∧ toldV o l ≤ 100000000 := by
  have h1 := sum_mil l h
  have h2 := head_mil h
  have h3 := maxL_mil l _ h2.1 h
  have h4 := minL_mil l _ h2.1 h
  have : -100000000 ≤ toldV o l ∧ toldV o l ≤ 100000000 := by
    unfold toldV
    unfold mil at *
    split
    · omega
    split
    · omega
    split
    · omega
    split
    · omega
    · omega
  exact ⟨cutV_idW (by omega) (by omega), this⟩
end Go.Proofs.YtpbemaaghbbocaaGreatDoor
namespace Go.Proofs.YtpbemaaghbbocaaGreatDoor
open Go.RowKit LS
def toldK (op : Nat) (l : List Int) : Int := if op = 5 then l.getLastD 0 else toldV op l
theorem take_snocI (l : List Int) (k : Nat) (h : k < l.length) : l.take (k + 1) = l.take k ++ [l[k]] := List.take_succ_eq_append_getElem h
set_option maxRecDepth 100000 in
set_option maxHeartbeats 4000000 in
theorem ktold_any (op : Nat) (hop : op ≤ 5) (v : Value) (l : List Int) (w : World) (hown : w.ownsRow 0 3 1 v l.length (l.map (.int .i64))) (hlen : l.length ≤ 100) (hok : ∀ x ∈ l, mil x) (hne : 0 < l.length) :
    Calls Tryz.prog 15 #[.int .i64 op, v] w fun e w' => e = .returned (.int .i64 (toldK op l)) ∧ ∃ n, w' = w.drewN n := by
  obtain ⟨g, cp, rfl⟩ := own_some hown hne
  have hc : ∀ (j : Nat) (hj : j < l.length), w.cell? ⟨g, j, none⟩ = some (.int .i64 (l[j])) := fun j hj => own_cell hown _ _ (by rw [List.getElem?_map, List.getElem?_eq_getElem hj]; rfl)
  have HC : Hid (∀ (j : Nat) (hj : j < l.length), w.cell? ⟨g, j, none⟩ = some (.int .i64 (l[j]))) := hc
  have HS := hid hok
  have h0 : w.cell? ⟨g, 0, none⟩ = some (.int .i64 (l[0])) := hc 0 hne
  obtain ⟨x0, hx0⟩ : ∃ x0, x0 = l[0] := ⟨_, rfl⟩
  have HX0 : Hid (x0 = l.headD 0) := hid (by rw [hx0]; cases l with | nil => simp at hne | cons a l => rfl)
  rw [← hx0] at h0
  clear hc hx0 hown hok
  go_enter Tryz.func15, Tryz.ntmps15
  go_wp2
  go_loop [5, 6, 7, 8] (fun s5 s6 s7 s8 => ∃ (k : Nat) (sm mx mn : Int), k ≤ l.length ∧ s8 = .int .i64 k ∧ s5 = .int .i64 sm ∧ s6 = .int .i64 mx ∧ s7 = .int .i64 mn ∧ Hid (sm = (l.take k).sum ∧ mx = maxL x0 (l.take k) ∧ mn = minL x0 (l.take k))) (fun _ _ _ s8 => l.length - (intOf s8).toNat)
  case atStart => exact ⟨0, 0, x0, x0, Nat.zero_le _, rfl, rfl, rfl, rfl, rfl, rfl, rfl⟩
  case round =>
    obtain ⟨k, sm, mx, mn, hk, rfl, rfl, rfl, rfl, HR⟩ := hrel
    by_cases hlt : k < l.length
    · have ck := HC.out k hlt
      have HT := hid (take_snocI l k hlt)
      have hb := sum_mil (l.take k) (fun x hx => HS.out x (List.mem_of_mem_take hx))
      rw [← HR.out.1, List.length_take] at hb
      have hx := HS.out l[k] (List.getElem_mem hlt)
      unfold mil at hx
      obtain ⟨hx3, hx4⟩ := hx
      obtain ⟨hb1, hb2⟩ := hb
      have hmin : min k l.length = k := by omega
      rw [hmin] at hb1 hb2
      have hk6 : (k : Int) ≤ 100 := by omega
      have hs1 : -100000000 ≤ sm := by omega
      have hs2 : sm ≤ 100000000 := by omega
      have HF : Hid (sm + l[k] = (l.take (k + 1)).sum ∧ (if mx < l[k] then l[k] else mx) = maxL x0 (l.take (k + 1)) ∧ (if l[k] < mn then l[k] else mn) = minL x0 (l.take (k + 1))) := hid (by
        rw [HT.out, List.sum_append, maxL_snoc, minL_snoc, ← HR.out.1, ← HR.out.2.1, ← HR.out.2.2]
        exact ⟨by simp, rfl, rfl⟩)
      obtain ⟨x, hxe⟩ : ∃ x, x = l[k] := ⟨_, rfl⟩
      rw [← hxe] at ck HF hx3 hx4
      clear hmin hb1 hb2 HT HR hxe
      by_cases hmx : mx < x
      · by_cases hmn : x < mn
        · go_wp2
          go_round
          case rel => exact ⟨k + 1, _, _, _, by omega, by go_num, rfl, rfl, rfl, ⟨HF.out.1, by rw [← HF.out.2.1, if_pos hmx], by rw [← HF.out.2.2, if_pos hmn]⟩⟩
          case measure => simp [intOf]; omega
        · go_wp2
          go_round
          case rel => exact ⟨k + 1, _, _, _, by omega, by go_num, rfl, rfl, rfl, ⟨HF.out.1, by rw [← HF.out.2.1, if_pos hmx], by rw [← HF.out.2.2, if_neg hmn]⟩⟩
          case measure => simp [intOf]; omega
      · by_cases hmn : x < mn
        · go_wp2
          go_round
          case rel => exact ⟨k + 1, _, _, _, by omega, by go_num, rfl, rfl, rfl, ⟨HF.out.1, by rw [← HF.out.2.1, if_neg hmx], by rw [← HF.out.2.2, if_pos hmn]⟩⟩
          case measure => simp [intOf]; omega
        · go_wp2
          go_round
          case rel => exact ⟨k + 1, _, _, _, by omega, by go_num, rfl, rfl, rfl, ⟨HF.out.1, by rw [← HF.out.2.1, if_neg hmx], by rw [← HF.out.2.2, if_neg hmn]⟩⟩
          case measure => simp [intOf]; omega
    · obtain rfl : k = l.length := by omega
      have HE : Hid (sm = l.sum ∧ mx = maxL (l.headD 0) l ∧ mn = minL (l.headD 0) l) := hid (by
        have := HR.out; rw [List.take_length, HX0.out] at this; exact this)
      have cl := HC.out (l.length - 1) (by omega)
      obtain ⟨xl, hxl⟩ : ∃ xl, xl = l[l.length - 1] := ⟨_, rfl⟩
      have HXL : Hid (xl = l.getLastD 0) := hid (by
        rw [hxl, List.getLastD_eq_getLast?, List.getLast?_eq_getElem?, List.getElem?_eq_getElem (by omega)]; rfl)
      have hx0b := HS.out l[0] (List.getElem_mem hne)
      have hxlb := HS.out l[l.length - 1] (List.getElem_mem (by omega))
      have hx0e : x0 = l[0] := by
        have h1 := HX0.out
        cases l with
        | nil => simp at hne
        | cons a l => exact h1
      unfold mil at hx0b hxlb
      rw [← hx0e] at hx0b
      rw [← hxl] at hxlb cl
      obtain ⟨y1, y2⟩ := hx0b
      obtain ⟨y3, y4⟩ := hxlb
      clear hxl hx0e
      obtain ⟨n1, hn1⟩ : ∃ n1 : Nat, n1 = l.length - 1 := ⟨_, rfl⟩
      have hn2 : (l.length : Int) - 1 = (n1 : Int) := by omega
      have hn3 : (n1 : Int) < l.length := by omega
      rw [← hn1] at cl
      clear hn1
      rcases (by omega : op = 0 ∨ op = 1 ∨ op = 2 ∨ op = 3 ∨ op = 4 ∨ op = 5) with rfl | rfl | rfl | rfl | rfl | rfl
      · go_wp2
        go_ret
        exact ⟨ret_int (by rw [HE.out.1]; rfl), 0, rfl⟩
      · go_wp2
        go_ret
        exact ⟨ret_int (by rw [HE.out.2.1]; rfl), 0, rfl⟩
      · go_wp2
        go_ret
        exact ⟨ret_int (by rw [HE.out.2.2]; rfl), 0, rfl⟩
      · go_wp2
        go_ret
        exact ⟨ret_int (by unfold toldK toldV; rfl), 0, rfl⟩
      · go_wp2
        go_quiet (fail)
        go_wp2
        go_ret
        exact ⟨ret_int (by unfold toldK toldV; rw [← HX0.out, ← HXL.out]; rfl), _, rfl⟩
      · go_wp2
        go_ret
        exact ⟨ret_int (by unfold toldK; rw [if_pos rfl, ← HXL.out]), 0, rfl⟩
end Go.Proofs.YtpbemaaghbbocaaGreatDoor
namespace Go.Proofs.YtpbemaaghbbocaaGreatDoor
open Go.RowKit LS
def pickV (c n : Int) : Int := if c < 0 then -((c + 1).tmod n) else c % n
theorem pickV_range (c n : Int) (hn : 1 ≤ n) : 0 ≤ pickV c n ∧ pickV c n < n := by
  unfold pickV
  split
  · rw [← Int.neg_tmod, Int.tmod_eq_emod_of_nonneg (by omega)]
    exact ⟨Int.emod_nonneg _ (by omega), Int.emod_lt_of_pos _ (by omega)⟩
  · exact ⟨Int.emod_nonneg _ (by omega), Int.emod_lt_of_pos _ (by omega)⟩
set_option maxHeartbeats 1000000 in
theorem pick_any (c n : Int) (hc1 : -9223372036854775808 ≤ c) (hc2 : c ≤ 9223372036854775807) (hn1 : 1 ≤ n) (hn2 : n ≤ 9223372036854775807) (w : World) :
    Calls Tryz.prog 12 #[.int .i64 c, .int .i64 n] w fun e w' => e = .returned (.int .i64 (pickV c n)) ∧ w' = w := by
  have hr := pickV_range c n hn1
  have hn3 : ¬ n = 0 := by omega
  go_enter Tryz.func12, Tryz.ntmps12
  by_cases h : c < 0
  · have e : pickV c n = -((c + 1).tmod n) := by unfold pickV; rw [if_pos h]
    rw [e] at hr
    rw [e]
    go_wp2
    go_ret
    exact ⟨rfl, rfl⟩
  · have e : pickV c n = c % n := by unfold pickV; rw [if_neg h]
    rw [e] at hr
    rw [e]
    go_wp2
    go_ret
    exact ⟨rfl, rfl⟩
end Go.Proofs.YtpbemaaghbbocaaGreatDoor
namespace Go.Proofs.YtpbemaaghbbocaaGreatDoor
open Go.RowKit LS
def tmS (Rd : Nat → Int × Int) : Nat → Int
  | 0 => 0
  | k + 1 => tmS Rd k + 1 + pickV (Rd k).1 20
def smK (Rd : Nat → Int × Int) (k : Nat) : Int × Int := (tmS Rd (k + 1), pickV (Rd k).2 2000001 - 1000000)
def RKs (Rd : Nat → Int × Int) (k : Nat) : List (Int × Int) := (List.range k).map (smK Rd)
theorem RK_step (Rd : Nat → Int × Int) (k : Nat) : RKs Rd (k + 1) = RKs Rd k ++ [smK Rd k] := by unfold RKs; rw [List.range_succ, List.map_append]; rfl
theorem RK_len (Rd : Nat → Int × Int) (k : Nat) : (RKs Rd k).length = k := by unfold RKs; simp
theorem tmS_step (Rd : Nat → Int × Int) (k : Nat) : tmS Rd k < tmS Rd (k + 1) ∧ tmS Rd (k + 1) ≤ tmS Rd k + 20 := by
  have := pickV_range (Rd k).1 20 (by decide)
  show tmS Rd k < tmS Rd k + 1 + pickV (Rd k).1 20 ∧ tmS Rd k + 1 + pickV (Rd k).1 20 ≤ tmS Rd k + 20
  omega
theorem tmS_le (Rd : Nat → Int × Int) : ∀ k, 0 ≤ tmS Rd k ∧ tmS Rd k ≤ 20 * (k : Int)
  | 0 => ⟨Int.le_refl _, by show (0 : Int) ≤ _; omega⟩
  | k + 1 => by
    have h1 := tmS_le Rd k
    have h2 := tmS_step Rd k
    omega
theorem tmS_mono (Rd : Nat → Int × Int) (j : Nat) : ∀ k, j ≤ k → tmS Rd j ≤ tmS Rd k
  | 0, h => by
    obtain rfl : j = 0 := by omega
    exact Int.le_refl _
  | k + 1, h => by
    by_cases e : j = k + 1
    · subst e; exact Int.le_refl _
    · have h1 := tmS_mono Rd j k (by omega)
      have h2 := tmS_step Rd k
      omega
theorem smK_v (Rd : Nat → Int × Int) (k : Nat) : mil (smK Rd k).2 := by
  have := pickV_range (Rd k).2 2000001 (by decide)
  show -1000000 ≤ pickV (Rd k).2 2000001 - 1000000 ∧ pickV (Rd k).2 2000001 - 1000000 ≤ 1000000
  omega
theorem riseF_snoc : ∀ (l : List (Int × Int)) (last : Int) (x : Int × Int), riseF last l → last < x.1 → (∀ y ∈ l, y.1 < x.1) → 0 ≤ x.1 → x.1 ≤ 1000000 → -1000000000 ≤ x.2 → x.2 ≤ 1000000000 → riseF last (l ++ [x])
  | [], last, x, _, h1, _, h3, h4, h5, h6 => ⟨h1, h3, h4, h5, h6, trivial⟩
  | y :: l, last, x, h, h1, h2, h3, h4, h5, h6 => by
    obtain ⟨a1, a2, a3, a4, a5, a6⟩ := h
    exact ⟨a1, a2, a3, a4, a5, riseF_snoc l y.1 x a6 (h2 y (List.mem_cons_self ..)) (fun z hz => h2 z (List.mem_cons_of_mem _ hz)) h3 h4 h5 h6⟩
theorem RK_mem {Rd : Nat → Int × Int} {k : Nat} {y : Int × Int} (h : y ∈ RKs Rd k) : ∃ j, j < k ∧ y = smK Rd j := by
  unfold RKs at h
  obtain ⟨j, hj, rfl⟩ := List.mem_map.1 h
  exact ⟨j, List.mem_range.1 hj, rfl⟩
theorem RK_rise (Rd : Nat → Int × Int) : ∀ k, k ≤ 100 → riseF (-1) (RKs Rd k)
  | 0, _ => trivial
  | k + 1, h => by
    rw [RK_step]
    have h1 := tmS_le Rd (k + 1)
    have h2 := smK_v Rd k
    unfold mil at h2
    refine riseF_snoc _ _ _ (RK_rise Rd k (by omega)) ?_ (fun y hy => ?_) h1.1 ?_ (by omega) (by omega)
    · show -1 < tmS Rd (k + 1); omega
    · obtain ⟨j, hj, rfl⟩ := RK_mem hy
      show tmS Rd (j + 1) < tmS Rd (k + 1)
      have := tmS_mono Rd (j + 1) k (by omega)
      have := tmS_step Rd k
      omega
    · show tmS Rd (k + 1) ≤ 1000000; omega
theorem linS_step (Rd : Nat → Int × Int) (k : Nat) : linS (RKs Rd (k + 1)) = linS (RKs Rd k) ++ [32] ++ decI (tmS Rd (k + 1)) ++ [58] ++ decI (pickV (Rd k).2 2000001 - 1000000) := by
  rw [RK_step]
  unfold linS
  rw [List.flatMap_append]
  simp [smS, pcS, smK]
theorem within_step (Rd : Nat → Int × Int) (k : Nat) (n t : Int) : withinV (RKs Rd (k + 1)) n t = withinV (RKs Rd k) n t ++ (if t - n < tmS Rd (k + 1) ∧ tmS Rd (k + 1) ≤ t then [smK Rd k] else []) := by
  rw [RK_step]
  unfold withinV
  rw [List.filter_append]
  congr 1
  by_cases h : t - n < tmS Rd (k + 1) ∧ tmS Rd (k + 1) ≤ t
  · rw [if_pos h, List.filter_cons_of_pos (by show (decide (t - n < tmS Rd (k + 1)) && decide (tmS Rd (k + 1) ≤ t)) = true; simpa using h)]; rfl
  · rw [if_neg h, List.filter_cons_of_neg (by show ¬ (decide (t - n < tmS Rd (k + 1)) && decide (tmS Rd (k + 1) ≤ t)) = true; simpa using h)]; rfl
def nearV (Rd : Nat → Int × Int) (k : Nat) (n t : Int) : List Int := (withinV (RKs Rd k) n t).map (·.2)
theorem near_in {Rd : Nat → Int × Int} {k : Nat} {n t : Int} (h1 : t - n < tmS Rd (k + 1)) (h2 : tmS Rd (k + 1) ≤ t) : nearV Rd (k + 1) n t = nearV Rd k n t ++ [pickV (Rd k).2 2000001 - 1000000] := by
  unfold nearV; rw [within_step, if_pos ⟨h1, h2⟩, List.map_append]; rfl
theorem near_out {Rd : Nat → Int × Int} {k : Nat} {n t : Int} (h : ¬ (t - n < tmS Rd (k + 1) ∧ tmS Rd (k + 1) ≤ t)) : nearV Rd (k + 1) n t = nearV Rd k n t := by
  unfold nearV; rw [within_step, if_neg h, List.append_nil]
theorem near_mil {Rd : Nat → Int × Int} {k : Nat} {n t : Int} : ∀ x ∈ nearV Rd k n t, mil x := by
  intro x hx
  unfold nearV at hx
  obtain ⟨y, hy, rfl⟩ := List.mem_map.1 hx
  obtain ⟨j, _, rfl⟩ := RK_mem (List.mem_filter.1 hy).1
  exact smK_v Rd j
theorem near_len {Rd : Nat → Int × Int} {k : Nat} {n t : Int} : (nearV Rd k n t).length ≤ k := by
  unfold nearV withinV
  rw [List.length_map]
  have := List.length_filter_le (fun x : Int × Int => decide (t - n < x.1) && decide (x.1 ≤ t)) (RKs Rd k)
  rw [RK_len] at this
  exact this
theorem decI_lenW {n : Int} (h1 : -1000000 ≤ n) (h2 : n ≤ 1000000) : (decI n).length ≤ 8 := by
  unfold decI
  split
  · have := decS_len 6 n.natAbs (by have : (10 : Nat) ^ 7 = 10000000 := by decide
                                    omega)
    rw [List.length_append]; simp; omega
  · have := decS_len 6 n.toNat (by have : (10 : Nat) ^ 7 = 10000000 := by decide
                                   omega)
    omega
theorem linS_len (Rd : Nat → Int × Int) : ∀ k, k ≤ 100 → (linS (RKs Rd k)).length ≤ 3 + 18 * k
  | 0, _ => Nat.le_refl 3
  | k + 1, h => by
    have ih := linS_len Rd k (by omega)
    have h1 := tmS_le Rd (k + 1)
    have h2 := smK_v Rd k
    have a1 := decI_lenW (n := tmS Rd (k + 1)) (by omega) (by omega)
    have a2 := decI_lenW (n := pickV (Rd k).2 2000001 - 1000000) h2.1 h2.2
    rw [linS_step]
    simp only [List.length_append, List.length_singleton]
    omega
def wantV (t : Int) (l : List Int) (x : Int) : List UInt8 := decI t ++ (if l.isEmpty then [] else [32, 123, 125] ++ decI x)
theorem want_win (Rd : Nat → Int × Int) (k o : Nat) (n t : Int) (hk : k ≤ 100) : sayW (RKs Rd k) (some o) n t = wantV t (nearV Rd k n t) (toldV o (nearV Rd k n t)) := by
  unfold sayW wantV
  have e : (withinV (RKs Rd k) n t).isEmpty = (nearV Rd k n t).isEmpty := by unfold nearV; simp
  rw [e]
  have : oneV (some o) (withinV (RKs Rd k) n t) = toldV o (nearV Rd k n t) := (told_cut near_mil (Nat.le_trans near_len hk) o).1
  rw [this]
theorem want_sel (Rd : Nat → Int × Int) (k : Nat) (t : Int) : sayW (RKs Rd k) none 10 t = wantV t (nearV Rd k 10 t) ((nearV Rd k 10 t).getLastD 0) := by
  unfold sayW wantV
  have e : (withinV (RKs Rd k) 10 t).isEmpty = (nearV Rd k 10 t).isEmpty := by unfold nearV; simp
  rw [e]
  have : oneV none (withinV (RKs Rd k) 10 t) = (nearV Rd k 10 t).getLastD 0 := by
    show ((withinV (RKs Rd k) 10 t).getLastD (0, 0)).2 = _
    unfold nearV
    generalize withinV (RKs Rd k) 10 t = l
    rw [List.getLastD_eq_getLast?, List.getLastD_eq_getLast?, List.getLast?_map]
    cases l.getLast? <;> rfl
  rw [this]
end Go.Proofs.YtpbemaaghbbocaaGreatDoor

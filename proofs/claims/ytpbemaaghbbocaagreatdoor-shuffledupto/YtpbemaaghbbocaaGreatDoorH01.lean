/- Parts. -/
import Derived.Test.YtpbemaaghbbocaaGreatDoorH00
import Derived.Test.YtpbemaaghbbocaaGreatDoorA00
import Derived.Test.YtpbemaaghbbocaaGreatDoorA38
import Derived.Test.YtpbemaaghbbocaaGreatDoorA43
namespace Go.Proofs.YtpbemaaghbbocaaGreatDoor
open Go.RowKit LS
def pickV (c n : Int) : Int := if c < 0 then -((c + 1).tmod n) else c % n
theorem pickV_range (c n : Int) (hn : 1 ≤ n) : 0 ≤ pickV c n ∧ pickV c n < n := by
  unfold pickV
  split
  · rw [← Int.neg_tmod, Int.tmod_eq_emod_of_nonneg (by omega)]
    exact ⟨Int.emod_nonneg _ (by omega), Int.emod_lt_of_pos _ (by omega)⟩
  · exact ⟨Int.emod_nonneg _ (by omega), Int.emod_lt_of_pos _ (by omega)⟩
set_option maxHeartbeats 1000000 in
theorem pick_any (c n : Int) (hc1 : -9223372036854775808 ≤ c) (hc2 : c ≤ 9223372036854775807) (hn1 : 1 ≤ n) (hn2 : n ≤ 9223372036854775807) (w : World) :
    Calls Tryz.prog 12 #[.int .i64 c, .int .i64 n] w fun e w' => e = .returned (.int .i64 (pickV c n)) ∧ w' = w := by
  have hr := pickV_range c n hn1
  have hn3 : ¬ n = 0 := by omega
  go_enter Tryz.func12, Tryz.ntmps12
  by_cases h : c < 0
  · have e : pickV c n = -((c + 1).tmod n) := by unfold pickV; rw [if_pos h]
    rw [e] at hr
    rw [e]
    go_wp2
    go_ret
    exact ⟨rfl, rfl⟩
  · have e : pickV c n = c % n := by unfold pickV; rw [if_neg h]
    rw [e] at hr
    rw [e]
    go_wp2
    go_ret
    exact ⟨rfl, rfl⟩
end Go.Proofs.YtpbemaaghbbocaaGreatDoor
namespace Go.Proofs.YtpbemaaghbbocaaGreatDoor
open Go.RowKit LS
def ixF (n k : Nat) (back : Bool) (i : Nat) : Nat := if back then n - 1 - (k + i) % n else (k + i) % n
theorem ixF_lt {n k : Nat} {back : Bool} {i : Nat} (h : i < n) : ixF n k back i < n := by
  have := Nat.mod_lt (k + i) (show 0 < n by omega)
  unfold ixF
  split <;> omega
def joinS (Sx : Nat → ByteArray) (n k : Nat) (back : Bool) (i : Nat) : List UInt8 := joinN ((List.range i).map fun j => bl (Sx (ixF n k back j)))
theorem joinS_step (Sx : Nat → ByteArray) (n k : Nat) (back : Bool) (i : Nat) : joinS Sx n k back (i + 1) = (if i = 0 then [] else joinS Sx n k back i ++ [10]) ++ bl (Sx (ixF n k back i)) := by
  unfold joinS
  rw [List.range_succ, List.map_append, List.map_singleton, joinN_snoc]
  cases i with
  | zero => rfl
  | succ i => rw [if_neg (Nat.succ_ne_zero i), if_neg (by simp)]
set_option maxRecDepth 100000 in
set_option maxHeartbeats 4000000 in
theorem joined_any (a : Addr) (n cap k : Nat) (back : Bool) (Sx : Nat → ByteArray) (w : World) (hn : n ≤ 1048576) (hk : k ≤ n) (hcell : ∀ i, i < n → w.cell? (a.add i) = some (.string (Sx i))) (hsz : ∀ i, i < n → (Sx i).size ≤ 1048576) :
    Calls Tryz.prog 11 #[.slice (some a) n cap, .int .i64 k, .bool back] w fun e w' => ∃ r : ByteArray, e = .returned (.string r) ∧ Hid (bl r = joinS Sx n k back n) ∧ r.size ≤ 1099512676352 ∧ w' = w := by
  have HC := hid hcell
  have HS := hid hsz
  clear hcell hsz
  go_enter Tryz.func11, Tryz.ntmps11
  go_wp2
  go_loop [7, 8] (fun sv iv => ∃ (i : Nat) (s : ByteArray), sv = .string s ∧ iv = .int .i64 i ∧ i ≤ n ∧ s.size ≤ i * 1048577 ∧ Hid (bl s = joinS Sx n k back i)) (fun _ iv => n - (intOf iv).toNat)
  case atStart => exact ⟨0, ⟨#[]⟩, rfl, rfl, Nat.zero_le _, Nat.le_of_eq (by decide), hid rfl⟩
  case round =>
    obtain ⟨i, s, rfl, rfl, hi, hs, HJ⟩ := hrel
    have hs2 : s.size ≤ 1099512676352 := by omega
    by_cases hlt : i < n
    · have hc := HC.out (ixF n k back i) (ixF_lt hlt)
      have hz := HS.out (ixF n k back i) (ixF_lt hlt)
      have hx := ixF_lt (k := k) (back := back) hlt
      have hst := joinS_step Sx n k back i
      have e10 : (⟨#[10]⟩ : ByteArray).size = 1 := rfl
      have hn0 : ¬ (n : Int) = 0 := by omega
      obtain ⟨x, hxd⟩ : ∃ x, x = (k + i) % n := ⟨_, rfl⟩
      have hxn : x < n := by rw [hxd]; exact Nat.mod_lt _ (by omega)
      have emod : ((k : Int) + (i : Int)) % (n : Int) = (x : Int) := by rw [hxd, Int.natCast_emod, Int.natCast_add]
      by_cases h0 : i = 0
      · have HF : Hid (bl (s ++ Sx (ixF n k back i)) = joinS Sx n k back (i + 1)) := hid (by rw [hst, if_pos h0, bl_app, HJ.out, h0]; rfl)
        have hg : ¬ (0 < (i : Int)) := by omega
        have hfs : (s ++ Sx (ixF n k back i)).size ≤ (i + 1) * 1048577 := by rw [ByteArray.size_append]; omega
        clear hst HJ h0
        cases back with
        | false =>
          have e : ixF n k false i = x := hxd.symm
          rw [e] at hc hz hx HF hfs
          clear e hxd
          go_wp2
          go_round
          case rel => exact ⟨i + 1, _, rfl, by go_num, by omega, hfs, HF⟩
          case measure => simp [intOf]; omega
        | true =>
          have e : ixF n k true i = n - 1 - x := by rw [hxd]; rfl
          rw [e] at hc hz hx HF hfs
          clear e hxd
          go_wp2
          go_round
          case rel => exact ⟨i + 1, _, rfl, by go_num, by omega, hfs, HF⟩
          case measure => simp [intOf]; omega
      · have HF : Hid (bl (s ++ ⟨#[10]⟩ ++ Sx (ixF n k back i)) = joinS Sx n k back (i + 1)) := hid (by rw [hst, if_neg h0, bl_app, bl_app, HJ.out]; rfl)
        have hg : 0 < (i : Int) := by omega
        have hfs : (s ++ ⟨#[10]⟩ ++ Sx (ixF n k back i)).size ≤ (i + 1) * 1048577 := by rw [ByteArray.size_append, ByteArray.size_append]; omega
        clear hst HJ h0
        cases back with
        | false =>
          have e : ixF n k false i = x := hxd.symm
          rw [e] at hc hz hx HF hfs
          clear e hxd
          go_wp2
          go_round
          case rel => exact ⟨i + 1, _, rfl, by go_num, by omega, hfs, HF⟩
          case measure => simp [intOf]; omega
        | true =>
          have e : ixF n k true i = n - 1 - x := by rw [hxd]; rfl
          rw [e] at hc hz hx HF hfs
          clear e hxd
          go_wp2
          go_round
          case rel => exact ⟨i + 1, _, rfl, by go_num, by omega, hfs, HF⟩
          case measure => simp [intOf]; omega
    · obtain rfl : i = n := by omega
      go_wp2
      go_ret
      exact ⟨s, rfl, HJ, hs2, rfl⟩
set_option maxRecDepth 100000 in
set_option maxHeartbeats 4000000 in
theorem joined_nil (k : Nat) (back : Bool) (w : World) :
    Calls Tryz.prog 11 #[.slice none 0 0, .int .i64 k, .bool back] w fun e w' => e = .returned (.string ⟨#[]⟩) ∧ w' = w := by
  go_enter Tryz.func11, Tryz.ntmps11
  go_wp2
  go_loop [7, 8] (fun sv iv => sv = .string ⟨#[]⟩ ∧ iv = .int .i64 0) (fun _ _ => 0)
  case atStart => exact ⟨rfl, rfl⟩
  case round =>
    obtain ⟨rfl, rfl⟩ := hrel
    go_wp2
    go_ret
    exact ⟨rfl, rfl⟩
end Go.Proofs.YtpbemaaghbbocaaGreatDoor
namespace Go.Proofs.YtpbemaaghbbocaaGreatDoor
open Go.RowKit LS
theorem pre_append (p : List UInt8) (x y : List (List UInt8)) (h : x ≠ []) : pre p (x ++ y) = pre p x ++ y := by
  cases x with
  | nil => exact absurd rfl h
  | cons a t => rfl
theorem split_mid (c : UInt8) (a b : List UInt8) : split c (a ++ c :: b) = split c a ++ split c b := by
  induction a with
  | nil => rw [List.nil_append, split_hit]; rfl
  | cons x a ih =>
    by_cases hx : x = c
    · subst hx; rw [List.cons_append, split_hit, split_hit, ih]; rfl
    · have h : (x == c) = false := by simp [hx]
      rw [List.cons_append, split_miss c x _ h, split_miss c x _ h, ih, pre_append _ _ _ (split_ne c a)]
theorem split_joinN : ∀ l : List (List UInt8), l ≠ [] → split 10 (joinN l) = l.flatMap (split 10)
  | [], h => absurd rfl h
  | [a], _ => by simp [joinN]
  | a :: b :: l, _ => by
    rw [joinN, split_mid, split_joinN (b :: l) (by simp)]; rfl
theorem split_sum (c : UInt8) (l : List UInt8) : ((split c l).map fun x => x.length + 1).sum = l.length + 1 := by
  induction l with
  | nil => rfl
  | cons x l ih =>
    by_cases hx : x = c
    · subst hx; rw [split_hit, List.map_cons, List.sum_cons, ih, List.length_cons]; simp; omega
    · rw [split_miss c x l (by simp [hx])]
      cases h : split c l with
      | nil => exact absurd h (split_ne c l)
      | cons a t =>
        rw [h] at ih
        simp only [pre, List.map_cons, List.sum_cons, List.length_append, List.length_cons, List.length_nil] at ih ⊢
        omega
def full (P : List (List UInt8)) : List (List UInt8) := P.filter fun x => !x.isEmpty
def ser1 (x : List UInt8) : Ser := match line x with
  | some (a, b, _) => ⟨a, (labels b).getD [], sams1 x⟩
  | none => ⟨[], [], []⟩
def cnt1 (x : List UInt8) : Nat := match line x with
  | some (_, _, n) => n
  | none => 0
theorem full_nil (P : List (List UInt8)) : full ([] :: P) = full P := rfl
theorem full_cons (x : List UInt8) (P : List (List UInt8)) (h : x ≠ []) : full (x :: P) = x :: full P := by
  unfold full
  rw [List.filter_cons_of_pos]
  cases x with
  | nil => exact absurd rfl h
  | cons _ _ => rfl
theorem linesAcc_good (P : List (List UInt8)) : ∀ (ps : List (List UInt8)) (i : Nat) (acc : List Entry), P.drop i = ps → (∀ x ∈ ps, x ≠ [] → (line x).isSome = true) →
    ∃ rest : List Entry, linesAcc i acc ps = .inr (acc ++ rest) ∧ rest.map (serE P) = (full ps).map ser1 ∧ rest.map keyOfE = (full ps).map headOf ∧ rest.map (·.count) = (full ps).map cnt1
  | [], i, acc, _, _ => ⟨[], by simp [linesAcc], rfl, rfl, rfl⟩
  | x :: xs, i, acc, hd, hg => by
    have hd' : P.drop (i + 1) = xs := by rw [← List.drop_drop, hd]; rfl
    have hg' : ∀ y ∈ xs, y ≠ [] → (line y).isSome = true := fun y hy => hg y (List.mem_cons_of_mem _ hy)
    have hx : P.getD i [] = x := by
      have : (P.drop i)[0]? = some x := by rw [hd]; rfl
      rw [List.getElem?_drop] at this
      rw [List.getD_eq_getElem?_getD, show i = i + 0 from rfl, this]; rfl
    by_cases h0 : x = []
    · subst h0
      rw [linesAcc, if_pos rfl, full_nil]
      exact linesAcc_good P xs (i + 1) acc hd' hg'
    · have hl := hg x (List.mem_cons_self ..) h0
      cases hh : line x with
      | none => rw [hh] at hl; cases hl
      | some t =>
        obtain ⟨a, b, n⟩ := t
        obtain ⟨rest, e1, e2, e3, e4⟩ := linesAcc_good P xs (i + 1) (acc ++ [⟨i, a, b, n⟩]) hd' hg'
        refine ⟨⟨i, a, b, n⟩ :: rest, ?_, ?_, ?_, ?_⟩
        · rw [linesAcc, if_neg h0, hh]
          simp only
          rw [e1]; simp
        · rw [full_cons x xs h0, List.map_cons, List.map_cons, e2]
          congr 1
          unfold serE ser1
          rw [hh, hx]
        · rw [full_cons x xs h0, List.map_cons, List.map_cons, e3]
          congr 1
          exact (line_parts hh).2.2.symm
        · rw [full_cons x xs h0, List.map_cons, List.map_cons, e4]
          congr 1
          unfold cnt1
          rw [hh]
theorem linesAcc_bad1 : ∀ (ps : List (List UInt8)) (i : Nat) (acc : List Entry), (∃ x ∈ ps, x ≠ [] ∧ line x = none) → ∃ k, linesAcc i acc ps = .inl k
  | [], _, _, h => by obtain ⟨x, hx, _⟩ := h; cases hx
  | x :: xs, i, acc, h => by
    rw [linesAcc]
    by_cases h0 : x = []
    · rw [if_pos h0]
      obtain ⟨y, hy, h1, h2⟩ := h
      rcases List.mem_cons.1 hy with rfl | hy
      · exact absurd h0 h1
      · exact linesAcc_bad1 xs _ _ ⟨y, hy, h1, h2⟩
    · rw [if_neg h0]
      cases hh : line x with
      | none => exact ⟨i, rfl⟩
      | some t =>
        obtain ⟨a, b, n⟩ := t
        obtain ⟨y, hy, h1, h2⟩ := h
        rcases List.mem_cons.1 hy with rfl | hy
        · rw [hh] at h2; cases h2
        · exact linesAcc_bad1 xs _ _ ⟨y, hy, h1, h2⟩
theorem dup_none : ∀ (rest seen : List Entry), (rest.Pairwise fun a b => keyOfE a ≠ keyOfE b) → (∀ e ∈ rest, ∀ s ∈ seen, keyOfE s ≠ keyOfE e) → dupFrom seen rest = none
  | [], _, _, _ => rfl
  | e :: rest, seen, h1, h2 => by
    obtain ⟨g1, g2⟩ := List.pairwise_cons.1 h1
    rw [dupFrom, if_neg]
    · refine dup_none rest (seen ++ [e]) g2 (fun f hf s hs => ?_)
      rcases List.mem_append.1 hs with hs | hs
      · exact h2 f (List.mem_cons_of_mem _ hf) s hs
      · rw [List.mem_singleton] at hs; subst hs; exact g1 f hf
    · rw [List.contains_iff_mem]
      intro hm
      obtain ⟨s, hs, he⟩ := List.mem_map.1 hm
      exact h2 e (List.mem_cons_self ..) s hs he
def GoodL (P : List (List UInt8)) : Prop := (P.map fun x => x.length + 1).sum ≤ 6001 ∧ (∀ x ∈ P, x ≠ [] → (line x).isSome = true) ∧ ((full P).map headOf).Nodup ∧ (full P).length ≤ 30 ∧ ((full P).map cnt1).sum ≤ 200
theorem load_good (l : List UInt8) : (loadRes l).1 = 0 ↔ GoodL (split 10 l) := by
  unfold GoodL
  rw [split_sum]
  unfold loadRes
  by_cases hlen : 6000 < l.length
  · rw [if_pos hlen]
    exact ⟨fun h => absurd h (by decide), fun h => by omega⟩
  rw [if_neg hlen]
  by_cases hg : ∀ x ∈ split 10 l, x ≠ [] → (line x).isSome = true
  · obtain ⟨rest, e1, e2, e3, e4⟩ := linesAcc_good (split 10 l) (split 10 l) 0 [] rfl hg
    rw [List.nil_append] at e1
    rw [e1]
    simp only
    rw [twice_eq e1]
    have hs : sumTo rest rest.length = ((full (split 10 l)).map cnt1).sum := by
      unfold sumTo; rw [List.take_length, e4]
    have hn : rest.length = (full (split 10 l)).length := by
      have := congrArg List.length e3
      simpa using this
    have hp : (rest.Pairwise fun a b => keyOfE a ≠ keyOfE b) ↔ ((full (split 10 l)).map headOf).Nodup := by
      rw [← e3]
      unfold List.Nodup
      rw [List.pairwise_map]
    by_cases hd : rest.Pairwise fun a b => keyOfE a ≠ keyOfE b
    · rw [dup_none rest [] hd (by simp)]
      simp only
      rw [hs, hn]
      by_cases hm : 30 < (full (split 10 l)).length ∨ 200 < ((full (split 10 l)).map cnt1).sum
      · rw [if_pos hm]
        exact ⟨fun h => absurd h (by decide), fun h => by omega⟩
      · rw [if_neg hm]
        exact ⟨fun _ => ⟨by omega, hg, hp.1 hd, by omega, by omega⟩, fun _ => rfl⟩
    · cases hdd : dupFrom [] rest with
      | none => exact absurd (dup_pair rest [] hdd).1 hd
      | some i => exact ⟨fun h => (by cases h), fun h => absurd (hp.2 h.2.2.1) hd⟩
  · have hb : ∃ x ∈ split 10 l, x ≠ [] ∧ line x = none := by
      simp only [Classical.not_forall] at hg
      obtain ⟨x, hx, h0, h1⟩ := hg
      refine ⟨x, hx, h0, ?_⟩
      cases hh : line x with
      | none => rfl
      | some _ => rw [hh] at h1; exact absurd rfl h1
    obtain ⟨k, hk⟩ := linesAcc_bad1 _ 0 [] hb
    rw [hk]
    exact ⟨fun h => (by cases h), fun h => absurd h.2.1 hg⟩
theorem store_good {l : List UInt8} (h : GoodL (split 10 l)) : storeS l = (full (split 10 l)).map ser1 ∧ Dst (storeS l) := by
  obtain ⟨rest, e1, e2, e3, e4⟩ := linesAcc_good (split 10 l) (split 10 l) 0 [] rfl h.2.1
  rw [List.nil_append] at e1
  have hst : storeS l = (full (split 10 l)).map ser1 := by unfold storeS; rw [e1]; exact e2
  refine ⟨hst, ?_⟩
  rw [hst]
  unfold Dst
  rw [List.pairwise_map]
  have hn := h.2.2.1
  unfold List.Nodup at hn
  rw [List.pairwise_map] at hn
  refine List.Pairwise.imp_of_mem ?_ hn
  intro x y hx hy hne hh
  have gx : x ∈ split 10 l ∧ x ≠ [] := by
    have := List.mem_filter.1 hx
    exact ⟨this.1, fun h0 => by rw [h0] at this; exact absurd this.2 (by decide)⟩
  have gy : y ∈ split 10 l ∧ y ≠ [] := by
    have := List.mem_filter.1 hy
    exact ⟨this.1, fun h0 => by rw [h0] at this; exact absurd this.2 (by decide)⟩
  have lx := h.2.1 x gx.1 gx.2
  have ly := h.2.1 y gy.1 gy.2
  cases h1 : line x with
  | none => rw [h1] at lx; cases lx
  | some t =>
    cases h2 : line y with
    | none => rw [h2] at ly; cases ly
    | some u =>
      obtain ⟨a, b, n⟩ := t
      obtain ⟨a', b', n'⟩ := u
      have p1 := line_parts h1
      have p2 := line_parts h2
      unfold ser1 at hh
      rw [h1, h2] at hh
      simp only at hh
      obtain ⟨q1, hq1⟩ := Option.isSome_iff_exists.1 p1.2.1
      obtain ⟨q2, hq2⟩ := Option.isSome_iff_exists.1 p2.2.1
      rw [hq1, hq2] at hh
      simp only [Option.getD_some] at hh
      rw [wrt_back hq1, wrt_back hq2] at hh
      exact hne (by rw [p1.2.2, p2.2.2, hh.1, hh.2])
theorem full_perm {P Q : List (List UInt8)} (h : P.Perm Q) : (full P).Perm (full Q) := h.filter _
theorem good_perm {P Q : List (List UInt8)} (h : P.Perm Q) (hg : GoodL P) : GoodL Q := by
  obtain ⟨h1, h2, h3, h4, h5⟩ := hg
  refine ⟨?_, fun x hx => h2 x (h.mem_iff.2 hx), ((full_perm h).map headOf).nodup_iff.1 h3, ?_, ?_⟩
  · rw [← (h.map _).sum_nat]; exact h1
  · rw [← (full_perm h).length_eq]; exact h4
  · rw [← ((full_perm h).map _).sum_nat]; exact h5
theorem srt_eq : ∀ (l m : List El), Srt l → Srt m → (∀ z, z ∈ l ↔ z ∈ m) → l = m
  | [], [], _, _, _ => rfl
  | [], y :: m, _, _, h => absurd ((h y).2 (List.mem_cons_self ..)) (by simp)
  | x :: l, [], _, _, h => absurd ((h x).1 (List.mem_cons_self ..)) (by simp)
  | x :: l, y :: m, hl, hm, h => by
    obtain ⟨l1, l2⟩ := List.pairwise_cons.1 hl
    obtain ⟨m1, m2⟩ := List.pairwise_cons.1 hm
    have irr : ∀ a : El, ¬ lt1 a a := fun a ha => by unfold lt1 at ha; rw [bls_irrefl] at ha; cases ha
    have hxy : x = y := by
      rcases List.mem_cons.1 ((h x).1 (List.mem_cons_self ..)) with e | hx
      · exact e
      · rcases List.mem_cons.1 ((h y).2 (List.mem_cons_self ..)) with e | hy
        · exact e.symm
        · exact absurd (bls_trans _ _ _ (m1 x hx) (l1 y hy)) (irr y)
    subst hxy
    congr 1
    refine srt_eq l m l2 m2 (fun z => ⟨fun hz => ?_, fun hz => ?_⟩)
    · rcases List.mem_cons.1 ((h z).1 (List.mem_cons_of_mem _ hz)) with rfl | hz'
      · exact absurd (l1 z hz) (irr z)
      · exact hz'
    · rcases List.mem_cons.1 ((h z).2 (List.mem_cons_of_mem _ hz)) with rfl | hz'
      · exact absurd (m1 z hz) (irr z)
      · exact hz'
theorem windowed_perm {st su : List Ser} (h : st.Perm su) (h1 : Dst st) (h2 : Dst su) (a : Nd) (op : Option Nat) (size t : Int) : windowedV st a op size t = windowedV su a op size t := by
  rw [windowedV_picked, windowedV_picked]
  obtain ⟨s1, _, m1⟩ := foldl_placed (pickedV st a op size t) [] List.Pairwise.nil (picked_dst h1 a op size t) (by simp)
  obtain ⟨s2, _, m2⟩ := foldl_placed (pickedV su a op size t) [] List.Pairwise.nil (picked_dst h2 a op size t) (by simp)
  refine srt_eq _ _ s1 s2 (fun z => ?_)
  rw [m1, m2]
  have : (pickedV st a op size t).Perm (pickedV su a op size t) := (h.filter _).map _
  rw [this.mem_iff]
theorem say_perm {st su : List Ser} (h : st.Perm su) (h1 : Dst st) (h2 : Dst su) (tm : Int) : ∀ t : Tr, sayT st tm t = sayT su tm t
  | .nil => rfl
  | .node x y a l r => by
    unfold sayT
    rw [windowed_perm h h1 h2, windowed_perm h h1 h2, say_perm h h1 h2 tm l, say_perm h h1 h2 tm r]
theorem eval_perm {a b : List UInt8} (h : (split 10 a).Perm (split 10 b)) (hg : (loadRes a).1 = 0) (q : List UInt8) (f l st : Int) : evalQ q a f l st = evalQ q b f l st := by
  have g1 := (load_good a).1 hg
  have g2 := good_perm h g1
  have hg2 := (load_good b).2 g2
  obtain ⟨e1, d1⟩ := store_good g1
  obtain ⟨e2, d2⟩ := store_good g2
  have hp : (storeS a).Perm (storeS b) := by rw [e1, e2]; exact (full_perm h).map _
  have hln : lineAt (storeS a) = lineAt (storeS b) := by
    funext t tm
    unfold lineAt
    rw [say_perm hp d1 d2]
  unfold evalQ
  rw [hg, hg2, hln]
  rfl
theorem load_perm {a b : List UInt8} (h : (split 10 a).Perm (split 10 b)) : (loadRes a).1 = 0 ↔ (loadRes b).1 = 0 := by
  rw [load_good, load_good]
  exact ⟨good_perm h, good_perm h.symm⟩
theorem joinN_perm {L M : List (List UInt8)} (h : L.Perm M) : (split 10 (joinN L)).Perm (split 10 (joinN M)) := by
  cases L with
  | nil => rw [h.nil_eq]
  | cons x l =>
    have hm : M ≠ [] := by rintro rfl; exact absurd h.length_eq (by simp)
    rw [split_joinN _ (by simp), split_joinN _ hm]
    exact h.flatMap_right _
end Go.Proofs.YtpbemaaghbbocaaGreatDoor
namespace Go.Proofs.YtpbemaaghbbocaaGreatDoor
open Go.RowKit LS
theorem rot_eq {n k : Nat} (hk : k < n) : (List.range n).map (fun i => (k + i) % n) = (List.range n).drop k ++ (List.range n).take k := by
  refine List.ext_getElem (by simp; omega) (fun i h1 h2 => ?_)
  rw [List.length_map, List.length_range] at h1
  rw [List.getElem_map, List.getElem_range, List.getElem_append]
  split
  · rename_i h
    rw [List.length_drop, List.length_range] at h
    rw [List.getElem_drop, List.getElem_range, Nat.mod_eq_of_lt (by omega)]
  · rename_i h
    rw [List.length_drop, List.length_range] at h
    rw [List.getElem_take, List.getElem_range, List.length_drop, List.length_range, Nat.mod_eq_sub_mod (by omega), Nat.mod_eq_of_lt (by omega)]
    omega
theorem rot_perm {n k : Nat} (hk : k < n) : ((List.range n).map (fun i => (k + i) % n)).Perm (List.range n) := by
  rw [rot_eq hk]
  refine List.perm_append_comm.trans ?_
  rw [List.take_append_drop]
theorem ix_perm {n k : Nat} (hk : k < n) (back : Bool) : ((List.range n).map (ixF n k back)).Perm (List.range n) := by
  cases back with
  | false => exact rot_perm hk
  | true =>
    have e : (List.range n).map (ixF n k true) = ((List.range n).map (fun i => (k + i) % n)).map (fun x => n - 1 - x) := by rw [List.map_map]; rfl
    rw [e]
    refine ((rot_perm hk).map _).trans ?_
    have er : (List.range n).map (fun x => n - 1 - x) = (List.range n).reverse := List.ext_getElem (by simp) (fun i h1 h2 => by simp)
    rw [er]
    exact List.reverse_perm _
theorem joinS_perm (Sx : Nat → ByteArray) {n k : Nat} (hk : k < n) (back : Bool) : (split 10 (joinS Sx n 0 false n)).Perm (split 10 (joinS Sx n k back n)) := by
  refine joinN_perm ?_
  have e : ∀ (k : Nat) (b : Bool), ((List.range n).map fun j => bl (Sx (ixF n k b j))) = ((List.range n).map (ixF n k b)).map fun x => bl (Sx x) := fun k b => by rw [List.map_map]; rfl
  rw [e, e]
  exact ((ix_perm (by omega) false).trans (ix_perm hk back).symm).map _
theorem gLoad_any (s : ByteArray) (A : Nat → Addr) (m : Int) (w : World) (hv : Vars w A m) (hs : s.size ≤ maxLen) :
    Calls Tryz.prog 13 #[.string s] w fun e w' => e = .returned (.tuple #[.int .i64 (loadRes (bl s)).1, .int .i64 (loadRes (bl s)).2]) ∧ Below w.heap.size w w' := by
  refine load_of s A m (loadRes (bl s)) w hv ?_
  by_cases h : s.size ≤ 6000
  · refine hid ((read_short s A m w hv h).mono ?_)
    rintro e w' ⟨sv, err, h1, h2, h3, _⟩
    exact ⟨sv, err, h1, h2, h3⟩
  · have e : loadRes (bl s) = (1, 0) := by unfold loadRes; rw [if_pos (by rw [bl_length]; omega)]
    rw [e]
    exact read_long s A m w hv (by omega) hs
theorem add_blk (a : Addr) (i : Nat) : (a.add i).block = a.block := by unfold Addr.add; split <;> rfl
theorem cells_below {w w' : World} (h : Below w.heap.size w w') {a : Addr} {n : Nat} {Sx : Nat → ByteArray} (ha : 0 < n → a.block < w.heap.size) (hc : ∀ i, i < n → w.cell? (a.add i) = some (.string (Sx i))) : ∀ i, i < n → w'.cell? (a.add i) = some (.string (Sx i)) := by
  intro i hi
  rw [← hc i hi]
  exact World.cell?_of_block (by rw [add_blk]; exact h.block a.block (ha (by omega)))
theorem same_of_perm {a b : List UInt8} (h : (split 10 a).Perm (split 10 b)) (q : List UInt8) (f l st : Int) : ((loadRes a).1 = 0 ∧ (loadRes b).1 = 0 ∧ evalQ q a f l st = evalQ q b f l st) ∨ ((loadRes a).1 ≠ 0 ∧ (loadRes b).1 ≠ 0) := by
  by_cases h0 : (loadRes a).1 = 0
  · exact Or.inl ⟨h0, (load_perm h).1 h0, eval_perm h h0 q f l st⟩
  · exact Or.inr ⟨h0, fun h1 => h0 ((load_perm h).2 h1)⟩
set_option maxRecDepth 100000 in
set_option maxHeartbeats 8000000 in
theorem shuffled_true (ao : Option Addr) (n cap : Nat) (c : Int) (back : Bool) (q : ByteArray) (f l st : Int) (Sx : Nat → ByteArray) (A : Nat → Addr) (m : Int) (w : World) (hv : Vars w A m) (ht : PowTab w) (hB : 20 ≤ w.heap.size) (hn : n ≤ 1048576) (hc1 : -9223372036854775808 ≤ c) (hc2 : c ≤ 9223372036854775807) (hq : q.size ≤ 9223372036854775807)
    (ha : (ao = none ∧ n = 0 ∧ cap = 0) ∨ ∃ a : Addr, ao = some a ∧ (0 < n → a.block < w.heap.size) ∧ (∀ i, i < n → w.cell? (a.add i) = some (.string (Sx i))) ∧ ∀ i, i < n → (Sx i).size ≤ 1048576) :
    Calls Tryz.prog 5 #[.slice ao n cap, .int .i64 c, .bool back, .string q, .agg #[.int .i64 f, .int .i64 l, .int .i64 st]] w fun e w' => e = .returned (.bool true) ∧ Below w.heap.size w w' := by
  have HA : Hid (∀ W, Below w.heap.size w W → Calls Tryz.prog 8 #[] W _) := hid (fun W hb => awake_any A m W (hv.below hb) (ht.low hb hB) (Nat.le_trans hB hb.size))
  have HE : Hid (∀ (s : ByteArray) W, s.size ≤ maxLen → Below w.heap.size w W → Calls Tryz.prog 10 #[.string q, .string s, .agg #[.int .i64 f, .int .i64 l, .int .i64 st]] W _) := hid (fun s W hs hb => gEval_any q s f l st A m W (hv.below hb) (ht.low hb hB) (Nat.le_trans hB hb.size) hq hs)
  have HL : Hid (∀ (s : ByteArray) W, s.size ≤ maxLen → Below w.heap.size w W → Calls Tryz.prog 13 #[.string s] W fun e w' => ∃ c p : Nat, e = .returned (.tuple #[.int .i64 c, .int .i64 p]) ∧ Hid ((loadRes (bl s)).1 = c) ∧ Below W.heap.size W w') := hid (fun s W hs hb => (gLoad_any s A m W (hv.below hb) hs).mono (fun e w' ⟨h1, h2⟩ => ⟨_, _, h1, hid rfl, h2⟩))
  have HJ : Hid (∀ (W : World) (k : Nat) (bk : Bool), Below w.heap.size w W → k ≤ n → Calls Tryz.prog 11 #[.slice ao n cap, .int .i64 k, .bool bk] W fun e w' => ∃ r : ByteArray, e = .returned (.string r) ∧ Hid (bl r = joinS Sx n k bk n) ∧ r.size ≤ maxLen ∧ w' = W) := hid (fun W k bk hb hk => by
    rcases ha with ⟨rfl, rfl, rfl⟩ | ⟨a, rfl, h1, h2, h3⟩
    · refine (joined_nil k bk W).mono ?_
      rintro e w' ⟨rfl, rfl⟩
      exact ⟨_, rfl, hid rfl, by decide, rfl⟩
    · refine (joined_any a n cap k bk Sx W hn hk (cells_below hb h1 h2) h3).mono ?_
      rintro e w' ⟨r, rfl, h4, h5, rfl⟩
      exact ⟨r, rfl, h4, Nat.le_trans h5 (by unfold maxLen; decide), rfl⟩)
  clear hv ht hB hq ha
  go_enter Tryz.func5, Tryz.ntmps5
  go_wp2_with fail
  refine calls_gen fun W hW => ?_
  have hbW : Below w.heap.size w W := by rw [hW]; exact (Below.refl _ _).alloc (Nat.le_refl _) _
  have HX : Hid (BAt W w.heap.size [.int .i64 f, .int .i64 l, .int .i64 st] 23) := hid (by rw [hW]; exact Go.Deep.blk_alloc_new _ _)
  refine (HA.out W hbW).mono ?_
  rintro e w1 ⟨rfl, hb1⟩
  have HB1 : Hid (Below w.heap.size w w1) := hid (hbW.trans (hb1.mono hbW.size))
  have HX1 := hid (HX.out.below hb1)
  clear hb1 hbW hW HA HX
  go_wp2_with fail
  refine (HJ.out w1 0 false HB1.out (Nat.zero_le _)).mono ?_
  rintro e w2 ⟨a, rfl, HJa, hasz, rfl⟩
  by_cases h0 : n = 0
  · have HPM : Hid ((split 10 (bl a)).Perm (split 10 (bl (⟨#[]⟩ : ByteArray)))) := hid (by rw [HJa.out, h0]; exact List.Perm.refl _)
    have hbsz : (⟨#[]⟩ : ByteArray).size ≤ maxLen := by decide
    subst h0
    clear HJa HJ
    go_wp2_with fail
    refine (HL.out a _ hasz HB1.out).mono ?_
    rintro e w5 ⟨la, ma, rfl, HLa, hb5⟩
    have HB5 : Hid (Below w.heap.size w w5) := hid (HB1.out.trans (hb5.mono HB1.out.size))
    have HX5 := hid (HX1.out.below hb5)
    clear hb5 HB1 HX1
    go_wp2_with fail
    refine (HL.out ⟨#[]⟩ w5 hbsz HB5.out).mono ?_
    rintro e w6 ⟨lb, mb, rfl, HLb, hb6⟩
    have HB6 : Hid (Below w.heap.size w w6) := hid (HB5.out.trans (hb6.mono HB5.out.size))
    have HX6 := hid (HX5.out.below hb6)
    clear hb6 HB5 HX5
    have x0 := HX6.out.cell 0
    have x1 := HX6.out.cell 1
    have x2 := HX6.out.cell 2
    simp only [List.getElem?_cons_zero, List.getElem?_cons_succ] at x0 x1 x2
    go_wp2_with fail
    clear x0 x1 x2
    refine (HE.out a w6 hasz HB6.out).mono ?_
    rintro e w7 ⟨ra, ca, pa, rfl, HQa, hb7⟩
    have HB7 : Hid (Below w.heap.size w w7) := hid (HB6.out.trans (hb7.mono HB6.out.size))
    have HX7 := hid (HX6.out.below hb7)
    clear hb7 HB6 HX6
    have x0 := HX7.out.cell 0
    have x1 := HX7.out.cell 1
    have x2 := HX7.out.cell 2
    simp only [List.getElem?_cons_zero, List.getElem?_cons_succ] at x0 x1 x2
    go_wp2_with fail
    clear x0 x1 x2
    refine (HE.out ⟨#[]⟩ w7 hbsz HB7.out).mono ?_
    rintro e w8 ⟨rb, cb, pb, rfl, HQb, hb8⟩
    have HB8 : Hid (Below w.heap.size w w8) := hid (HB7.out.trans (hb8.mono HB7.out.size))
    clear hb8 HB7 HX7 HE HL
    rcases same_of_perm HPM.out (bl q) f l st with ⟨h1, h2, h3⟩ | ⟨h1, h2⟩
    · have he := HQa.out.symm.trans (h3.trans HQb.out)
      injection he with g1 g2
      injection g2 with g2 g3
      obtain rfl : ra = rb := bl_inj g1
      subst g2 g3
      obtain rfl : la = 0 := HLa.out.symm.trans h1
      obtain rfl : lb = 0 := HLb.out.symm.trans h2
      clear h1 h2 h3 HQa HQb g1 HPM HLa HLb
      go_wp2
      go_ret
      exact ⟨by simp, HB8.out⟩
    · rw [HLa.out] at h1
      rw [HLb.out] at h2
      have e1 : ((la : Int) == 0) = false := by rw [beq_eq_false_iff_ne]; omega
      have e2 : ((lb : Int) == 0) = false := by rw [beq_eq_false_iff_ne]; omega
      have n1 : ¬ ((la : Int) = 0) := by omega
      have n2 : ¬ ((lb : Int) = 0) := by omega
      clear h1 h2 HQa HQb HPM HLa HLb
      go_wp2
      go_ret
      exact ⟨by simp, HB8.out⟩
  · obtain ⟨k, hk⟩ : ∃ k : Nat, pickV c n = k := ⟨(pickV c n).toNat, by have := pickV_range c n (by omega); omega⟩
    have hkn : k < n := by have := pickV_range c n (by omega); omega
    have hgt : 0 < (n : Int) := by omega
    have hnn : (n : Int) ≤ 9223372036854775807 := by omega
    go_wp2_with fail
    refine (pick_any c n hc1 hc2 (by omega) hnn _).mono ?_
    rintro e w3 ⟨rfl, rfl⟩
    rw [hk]
    go_wp2_with fail
    refine (HJ.out _ k back HB1.out (by omega)).mono ?_
    rintro e w4 ⟨b, rfl, HJb, hbsz, rfl⟩
    have HPM : Hid ((split 10 (bl a)).Perm (split 10 (bl b))) := hid (by rw [HJa.out, HJb.out]; exact joinS_perm Sx hkn back)
    clear HJa HJb HJ hk hkn hgt hnn
    go_wp2_with fail
    refine (HL.out a _ hasz HB1.out).mono ?_
    rintro e w5 ⟨la, ma, rfl, HLa, hb5⟩
    have HB5 : Hid (Below w.heap.size w w5) := hid (HB1.out.trans (hb5.mono HB1.out.size))
    have HX5 := hid (HX1.out.below hb5)
    clear hb5 HB1 HX1
    go_wp2_with fail
    refine (HL.out b w5 hbsz HB5.out).mono ?_
    rintro e w6 ⟨lb, mb, rfl, HLb, hb6⟩
    have HB6 : Hid (Below w.heap.size w w6) := hid (HB5.out.trans (hb6.mono HB5.out.size))
    have HX6 := hid (HX5.out.below hb6)
    clear hb6 HB5 HX5
    have x0 := HX6.out.cell 0
    have x1 := HX6.out.cell 1
    have x2 := HX6.out.cell 2
    simp only [List.getElem?_cons_zero, List.getElem?_cons_succ] at x0 x1 x2
    go_wp2_with fail
    clear x0 x1 x2
    refine (HE.out a w6 hasz HB6.out).mono ?_
    rintro e w7 ⟨ra, ca, pa, rfl, HQa, hb7⟩
    have HB7 : Hid (Below w.heap.size w w7) := hid (HB6.out.trans (hb7.mono HB6.out.size))
    have HX7 := hid (HX6.out.below hb7)
    clear hb7 HB6 HX6
    have x0 := HX7.out.cell 0
    have x1 := HX7.out.cell 1
    have x2 := HX7.out.cell 2
    simp only [List.getElem?_cons_zero, List.getElem?_cons_succ] at x0 x1 x2
    go_wp2_with fail
    clear x0 x1 x2
    refine (HE.out b w7 hbsz HB7.out).mono ?_
    rintro e w8 ⟨rb, cb, pb, rfl, HQb, hb8⟩
    have HB8 : Hid (Below w.heap.size w w8) := hid (HB7.out.trans (hb8.mono HB7.out.size))
    clear hb8 HB7 HX7 HE HL
    rcases same_of_perm HPM.out (bl q) f l st with ⟨h1, h2, h3⟩ | ⟨h1, h2⟩
    · have he := HQa.out.symm.trans (h3.trans HQb.out)
      injection he with g1 g2
      injection g2 with g2 g3
      obtain rfl : ra = rb := bl_inj g1
      subst g2 g3
      obtain rfl : la = 0 := HLa.out.symm.trans h1
      obtain rfl : lb = 0 := HLb.out.symm.trans h2
      clear h1 h2 h3 HQa HQb g1 HPM HLa HLb
      go_wp2
      go_ret
      exact ⟨by simp, HB8.out⟩
    · rw [HLa.out] at h1
      rw [HLb.out] at h2
      have e1 : ((la : Int) == 0) = false := by rw [beq_eq_false_iff_ne]; omega
      have e2 : ((lb : Int) == 0) = false := by rw [beq_eq_false_iff_ne]; omega
      have n1 : ¬ ((la : Int) = 0) := by omega
      have n2 : ¬ ((lb : Int) = 0) := by omega
      clear h1 h2 HQa HQb HPM HLa HLb
      go_wp2
      go_ret
      exact ⟨by simp, HB8.out⟩
end Go.Proofs.YtpbemaaghbbocaaGreatDoor
